/- An inode that is written is read again. -/
import Derived.Test.YtokngjcfkkceiaaGreatDoorInJ31
import Derived.Test.YtokngjcfkkceiaaGreatDoorInJ29
namespace Go.Proofs.YtokngjcfkkceiaaGreatDoor
set_option maxRecDepth 100000
set_option maxHeartbeats 8000000
open Go.RowKit Go.Shelf
set_option linter.unusedVariables false

theorem inoOf_0 (zs:List Int):inoOf zs 0=getVal zs 0 1:=rfl
theorem inoOf_1 (zs:List Int):inoOf zs 1=getVal zs 2 2:=rfl
theorem inoOf_2 (zs:List Int):inoOf zs 2=getVal zs 4 4:=rfl
theorem inoOf_3 (zs:List Int):inoOf zs 3=getVal zs 8 2:=rfl
theorem inoOf_4 (zs:List Int):inoOf zs 4=getVal zs 10 2:=rfl
theorem inoOf_5 (zs:List Int):inoOf zs 5=getVal zs 12 2:=rfl
theorem inoOf_6 (zs:List Int):inoOf zs 6=getVal zs 14 2:=rfl
theorem inoOf_7 (zs:List Int):inoOf zs 7=getVal zs 16 2:=rfl
theorem inoOf_8 (zs:List Int):inoOf zs 8=getVal zs 18 2:=rfl
theorem inoOf_9 (zs:List Int):inoOf zs 9=getVal zs 20 2:=rfl
theorem inoOf_10 (zs:List Int):inoOf zs 10=getVal zs 22 2:=rfl
theorem inoOf_11 (zs:List Int):inoOf zs 11=getVal zs 24 2:=rfl
theorem inoOf_12 (zs:List Int):inoOf zs 12=getVal zs 26 2:=rfl

theorem ino_back {X:Nat→Int}(hk:kindB (X 0)=true)(hf:inoF X=true):∀ k,k<13→inoOf (layB 32 (inoL X)) k=X k:=by
 have hf':=hf
 unfold inoF at hf'
 simp only[Bool.and_eq_true] at hf'
 obtain⟨⟨h4,h2⟩,h8⟩:=hf'
 obtain⟨R,hR⟩:∃ R,layB 32 (inoL X)=[]++(encF [(1,X 0),(1,0),(2,X 1),(4,X 2),(2,X 3),(2,X 4),(2,X 5),(2,X 6),(2,X 7),(2,X 8),(2,X 9),(2,X 10),(2,X 11),(2,X 12)]++R):=⟨_,by simp only[layB,inoL,dirs,numsB,encF,List.map_cons,List.map_nil,List.flatten_cons,List.flatten_nil,List.append_nil,List.append_assoc,List.nil_append];rfl⟩
 generalize layB 32 (inoL X)=zs at *
 have g:∀ (j wd:Nat) (v:Int) (at':Int),[(1,X 0),(1,0),(2,X 1),(4,X 2),(2,X 3),(2,X 4),(2,X 5),(2,X 6),(2,X 7),(2,X 8),(2,X 9),(2,X 10),(2,X 11),(2,X 12)][j]?=some (wd,v)→(wd=1∨wd=2∨wd=4)→0≤v∧v<256 ^ wd→((0+offF [(1,X 0),(1,0),(2,X 1),(4,X 2),(2,X 3),(2,X 4),(2,X 5),(2,X 6),(2,X 7),(2,X 8),(2,X 9),(2,X 10),(2,X 11),(2,X 12)] j:Nat):Int)=at'→getVal zs at' (wd:Int)=v:=by
  intro j wd v at' h1 h2 h3 h4
  rw[← h4,hR]
  exact getVal_field _ j wd v [] R h1 h2 h3
 have hX0:0≤X 0∧X 0<256 ^ 1:=by
  simp[kindB] at hk
  omega
 intro k hk13
 have:k=0∨k=1∨k=2∨k=3∨k=4∨k=5∨k=6∨k=7∨k=8∨k=9∨k=10∨k=11∨k=12:=by omega
 rcases this with rfl | rfl | rfl | rfl | rfl | rfl | rfl | rfl | rfl | rfl | rfl | rfl | rfl
 ·exact(inoOf_0 zs).trans (g 0 1 (X 0) 0 rfl (by omega) hX0 rfl)
 ·exact(inoOf_1 zs).trans (g 2 2 (X 1) 2 rfl (by omega) (fit_in h2 _ (by simp)) rfl)
 ·exact(inoOf_2 zs).trans (g 3 4 (X 2) 4 rfl (by omega) (fit_in h4 _ (by simp)) rfl)
 ·exact(inoOf_3 zs).trans (g 4 2 (X 3) 8 rfl (by omega) (fit_in h8 _ (by simp[dirs])) rfl)
 ·exact(inoOf_4 zs).trans (g 5 2 (X 4) 10 rfl (by omega) (fit_in h8 _ (by simp[dirs])) rfl)
 ·exact(inoOf_5 zs).trans (g 6 2 (X 5) 12 rfl (by omega) (fit_in h8 _ (by simp[dirs])) rfl)
 ·exact(inoOf_6 zs).trans (g 7 2 (X 6) 14 rfl (by omega) (fit_in h8 _ (by simp[dirs])) rfl)
 ·exact(inoOf_7 zs).trans (g 8 2 (X 7) 16 rfl (by omega) (fit_in h8 _ (by simp[dirs])) rfl)
 ·exact(inoOf_8 zs).trans (g 9 2 (X 8) 18 rfl (by omega) (fit_in h8 _ (by simp[dirs])) rfl)
 ·exact(inoOf_9 zs).trans (g 10 2 (X 9) 20 rfl (by omega) (fit_in h8 _ (by simp[dirs])) rfl)
 ·exact(inoOf_10 zs).trans (g 11 2 (X 10) 22 rfl (by omega) (fit_in h8 _ (by simp[dirs])) rfl)
 ·exact(inoOf_11 zs).trans (g 12 2 (X 11) 24 rfl (by omega) (fit_in h2 _ (by simp)) rfl)
 ·exact(inoOf_12 zs).trans (g 13 2 (X 12) 26 rfl (by omega) (fit_in h2 _ (by simp)) rfl)

def inoGood (X:Nat→Int):Prop:=kindB (X 0)=true∧(X 0==0)=false∧inoF X=true

theorem inoGood.bad {X:Nat→Int}(h:inoGood X):inoBad X=false:=by
 unfold inoBad
 rw[h.1,h.2.1]
 rfl

theorem inoSame_sym {X Y:Nat→Int}(h:∀ k,k<13→X k=Y k):Iv X=Iv Y:=by
 unfold Iv
 rw[h 0 (by omega),h 1 (by omega),h 2 (by omega),h 3 (by omega),h 4 (by omega),h 5 (by omega),h 6 (by omega),h 7 (by omega),h 8 (by omega),h 9 (by omega),h 10 (by omega),h 11 (by omega),h 12 (by omega)]

theorem inoL_congr {X Y:Nat→Int}(h:∀ k,k<13→X k=Y k):inoL X=inoL Y:=by
 unfold inoL dirs
 rw[h 0 (by omega),h 1 (by omega),h 2 (by omega),h 3 (by omega),h 4 (by omega),h 5 (by omega),h 6 (by omega),h 7 (by omega),h 8 (by omega),h 9 (by omega),h 10 (by omega),h 11 (by omega),h 12 (by omega)]

theorem inoF_congr {X Y:Nat→Int}(h:∀ k,k<13→X k=Y k):inoF X=inoF Y:=by
 unfold inoF dirs
 rw[h 1 (by omega),h 2 (by omega),h 3 (by omega),h 4 (by omega),h 5 (by omega),h 6 (by omega),h 7 (by omega),h 8 (by omega),h 9 (by omega),h 10 (by omega),h 11 (by omega),h 12 (by omega)]

theorem inoBad_congr {X Y:Nat→Int}(h:∀ k,k<13→X k=Y k):inoBad X=inoBad Y:=by
 unfold inoBad
 rw[h 0 (by omega)]
 have:inoSame X zeroX=inoSame Y zeroX:=by
  cases hx:inoSame X zeroX with
  | true=>exact(inoSame_iff.2 fun k hk=>by rw[← h k hk];exact inoSame_iff.1 hx k hk).symm
  | false =>
   cases hy:inoSame Y zeroX with
   | false=>rfl
   | true=>rw[inoSame_iff.2 fun k hk=>by rw[h k hk];exact inoSame_iff.1 hy k hk] at hx;cases hx
 rw[this]

theorem ino_is {X:Nat→Int}(h:inoGood X):inoIs (layB 32 (inoL X)):=by
 have e:=ino_back h.1 h.2.2
 refine⟨?_,?_,?_,?_⟩
 ·rw[inoBad_congr e];exact h.bad
 ·rw[inoF_congr e];exact h.2.2
 ·rw[inoL_congr e]
 ·rw[e 0 (by omega)];exact h.2.1

theorem ino_iv {X:Nat→Int}(h:inoGood X):Iv (inoOf (layB 32 (inoL X)))=Iv X:=inoSame_sym (ino_back h.1 h.2.2)

end Go.Proofs.YtokngjcfkkceiaaGreatDoor
