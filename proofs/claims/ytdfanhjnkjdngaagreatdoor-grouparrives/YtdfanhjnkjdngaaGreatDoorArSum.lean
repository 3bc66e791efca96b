/- The sum of bytes as numbers: plain mathematics, of no function of the program. -/
import Derived.Laws.BitsAllLaws
namespace Go.Proofs.YtdfanhjnkjdngaaGreatDoor
set_option maxRecDepth 100000
set_option maxHeartbeats 8000000
set_option linter.unusedVariables false

def st (c:Nat):Nat:=c / 2 ^^^ (if c % 2=1 then 3988292384 else 0)

theorem xor_div (a b k:Nat):(a ^^^ b) / 2 ^ k=a / 2 ^ k ^^^ b / 2 ^ k:=by
 rw [← Nat.shiftRight_eq_div_pow,← Nat.shiftRight_eq_div_pow,← Nat.shiftRight_eq_div_pow,Nat.shiftRight_xor_distrib]

theorem xor_two (a b:Nat):(a ^^^ b) / 2=a / 2 ^^^ b / 2:=xor_div a b 1

theorem xor_sixteen (a b:Nat):(a ^^^ b) / 16=a / 16 ^^^ b / 16:=xor_div a b 4

theorem xor_mod (a b k:Nat):(a ^^^ b) % 2 ^ k=(a % 2 ^ k) ^^^ (b % 2 ^ k):=Nat.xor_mod_two_pow

theorem xor_swap (a b c d:Nat):(a ^^^ b) ^^^ (c ^^^ d)=(a ^^^ c) ^^^ (b ^^^ d):=by
 rw [Nat.xor_assoc,← Nat.xor_assoc b c d,Nat.xor_comm b c,Nat.xor_assoc c b d,← Nat.xor_assoc]

theorem st_xor (a b:Nat):st (a ^^^ b)=st a ^^^ st b:=by
 unfold st
 rw [xor_two,xor_swap]
 congr 1
 have h:=xor_mod a b 1
 rw [Nat.pow_one] at h
 rcases Nat.mod_two_eq_zero_or_one a with ha | ha <;> rcases Nat.mod_two_eq_zero_or_one b with hb | hb <;> rw [h,ha,hb] <;> decide

theorem lt_xor {a b:Nat} (ha:a < 4294967296) (hb:b < 4294967296):a ^^^ b < 4294967296:=Nat.xor_lt_two_pow (n:=32) ha hb

theorem st_lt {c:Nat} (h:c < 4294967296):st c < 4294967296:=by
 unfold st
 refine lt_xor (by omega) ?_
 split <;> omega

theorem st_even (q:Nat):st (2 * q)=q:=by
 unfold st
 rw [if_neg (by omega),Nat.xor_zero]
 omega

def st4 (c:Nat):Nat:=st (st (st (st c)))

theorem st4_xor (a b:Nat):st4 (a ^^^ b)=st4 a ^^^ st4 b:=by simp only [st4,st_xor]

theorem st4_sixteen (q:Nat):st4 (16 * q)=q:=by
 have h:16 * q=2 * (2 * (2 * (2 * q))):=by omega
 rw [st4,h,st_even,st_even,st_even,st_even]

def tab (r:Nat):Nat:=([0,498536548,997073096,651767980,1994146192,1802195444,1303535960,1342533948,3988292384,4027552580,3604390888,3412177804,2607071920,2262029012,2685067896,3183342108][r]?).getD 0

theorem st4_small (r:Nat) (h:r < 16):st4 r=tab r:=by
 have:∀ r:Fin 16,st4 r.1=tab r.1:=by decide +kernel
 exact this ⟨r,h⟩

theorem tab_lt (r:Nat):tab r < 4294967296:=by
 by_cases h:r < 16
 ·have:∀ r:Fin 16,tab r.1 < 4294967296:=by decide +kernel
  exact this ⟨r,h⟩
 ·rw [tab,List.getElem?_eq_none (by simp; omega)]
  decide

theorem sixteen_xor (q r:Nat) (h:r < 16):16 * q ^^^ r=16 * q + r:=by
 have h1:=xor_sixteen (16 * q) r
 have h2:=xor_mod (16 * q) r 4
 have e1:16 * q / 16=q:=by omega
 have e2:r / 16=0:=by omega
 have e3:16 * q % 2 ^ 4=0:=by omega
 have e4:r % 2 ^ 4=r:=by omega
 rw [e1,e2,Nat.xor_zero] at h1
 rw [e3,e4,Nat.zero_xor] at h2
 omega

theorem st4_look (c:Nat):st4 c=c / 16 ^^^ tab (c % 16):=by
 have h:c=16 * (c / 16) ^^^ (c % 16):=by rw [sixteen_xor _ _ (by omega)]; omega
 have hr:c % 16 < 16:=by omega
 have h2:=st4_xor (16 * (c / 16)) (c % 16)
 rw [st4_sixteen,st4_small _ hr] at h2
 rw [← h2,← h]

theorem st4_lt {c:Nat} (h:c < 4294967296):st4 c < 4294967296:=st_lt (st_lt (st_lt (st_lt h)))

def upd (c x:Nat):Nat:=st4 (st4 (c ^^^ x))

theorem upd_lt {c x:Nat} (h:c < 4294967296) (hx:x < 256):upd c x < 4294967296:=st4_lt (st4_lt (lt_xor h (by omega)))

def fol (c:Nat) (zs:List Int):Nat:=zs.foldl (fun c z=>upd c z.toNat) c

def Byts (zs:List Int):Prop:=∀ z ∈ zs,0 ≤ z∧z ≤ 255

theorem fol_cons (c:Nat) (z:Int) (zs:List Int):fol c (z :: zs)=fol (upd c z.toNat) zs:=rfl

theorem fol_append (c:Nat) (xs ys:List Int):fol c (xs ++ ys)=fol (fol c xs) ys:=by simp [fol]

theorem fol_lt {zs:List Int} (hz:Byts zs):∀ {c:Nat},c < 4294967296→fol c zs < 4294967296:=by
 induction zs with
 | nil=>intro c h; exact h
 | cons z zs ih =>
  intro c h
  have h0:=hz z (by simp)
  rw [fol_cons]
  exact ih (fun y hy=>hz y (by simp [hy])) (upd_lt h (by omega))

theorem fol_succ (c:Nat) (zs:List Int) (k:Nat) (h:k < zs.length):fol c (zs.take (k + 1))=upd (fol c (zs.take k)) (zs[k]?.getD 0).toNat:=by
 rw [List.take_succ_eq_append_getElem h,fol_append,List.getElem?_eq_getElem h]
 rfl

def addS (s:Nat) (zs:List Int):Nat:=fol (s ^^^ 4294967295) zs ^^^ 4294967295

def sumS (zs:List Int):Nat:=fol 4294967295 zs ^^^ 4294967295

theorem addS_zero (zs:List Int):addS 0 zs=sumS zs:=by rw [addS,Nat.zero_xor,sumS]

theorem sumS_lt {zs:List Int} (hz:Byts zs):sumS zs < 4294967296:=lt_xor (fol_lt hz (by omega)) (by omega)

end Go.Proofs.YtdfanhjnkjdngaaGreatDoor
