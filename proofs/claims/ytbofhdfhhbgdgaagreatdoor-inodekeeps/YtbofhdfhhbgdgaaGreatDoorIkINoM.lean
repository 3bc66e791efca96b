/- An inode that is written is read again. -/
import Derived.Test.YtbofhdfhhbgdgaaGreatDoorIkJ24
import Derived.Test.YtbofhdfhhbgdgaaGreatDoorIkJ23
namespace Go.Proofs.YtbofhdfhhbgdgaaGreatDoor
set_option maxRecDepth 100000
set_option maxHeartbeats 8000000
open Go.RowKit Go.Shelf
set_option linter.unusedVariables false
theorem ah8 (zs:List Int):cu zs 0=ak zs 0 1:=rfl
theorem ah7 (zs:List Int):cu zs 1=ak zs 2 2:=rfl
theorem ah6 (zs:List Int):cu zs 2=ak zs 4 4:=rfl
theorem ah5 (zs:List Int):cu zs 3=ak zs 8 2:=rfl
theorem ah4 (zs:List Int):cu zs 4=ak zs 10 2:=rfl
theorem ah3 (zs:List Int):cu zs 5=ak zs 12 2:=rfl
theorem ah2 (zs:List Int):cu zs 6=ak zs 14 2:=rfl
theorem ah1 (zs:List Int):cu zs 7=ak zs 16 2:=rfl
theorem ah0 (zs:List Int):cu zs 8=ak zs 18 2:=rfl
theorem ahz (zs:List Int):cu zs 9=ak zs 20 2:=rfl
theorem af6 (zs:List Int):cu zs 10=ak zs 22 2:=rfl
theorem af5 (zs:List Int):cu zs 11=ak zs 24 2:=rfl
theorem af4 (zs:List Int):cu zs 12=ak zs 26 2:=rfl
theorem aag {X:Nat->Int}(hk:oJ (X 0)=true)(hf:adw X=true):∀ k,k<13->cu (bP 32 (dI X)) k=X k:=by
 have hf':=hf
 unfold adw at hf'
 simp only[Bool.and_eq_true] at hf'
 obtain⟨⟨h4,h2⟩,h8⟩:=hf'
 obtain⟨R,hR⟩:∃ R,bP 32 (dI X)=[]++(adN [(1,X 0),(1,0),(2,X 1),(4,X 2),(2,X 3),(2,X 4),(2,X 5),(2,X 6),(2,X 7),(2,X 8),(2,X 9),(2,X 10),(2,X 11),(2,X 12)]++R):=⟨_,by simp only[bP,dI,iT,aO,adN,List.map_cons,List.map_nil,List.flatten_cons,List.flatten_nil,List.append_nil,List.append_assoc,List.nil_append];rfl⟩
 generalize bP 32 (dI X)=zs at *
 have g:∀ (j wd:Nat) (v:Int) (at':Int),[(1,X 0),(1,0),(2,X 1),(4,X 2),(2,X 3),(2,X 4),(2,X 5),(2,X 6),(2,X 7),(2,X 8),(2,X 9),(2,X 10),(2,X 11),(2,X 12)][j]?=some (wd,v)->(wd=1\/wd=2\/wd=4)->0<=v/\v<256 ^ wd->((0+aiO [(1,X 0),(1,0),(2,X 1),(4,X 2),(2,X 3),(2,X 4),(2,X 5),(2,X 6),(2,X 7),(2,X 8),(2,X 9),(2,X 10),(2,X 11),(2,X 12)] j:Nat):Int)=at'->ak zs at' (wd:Int)=v:=by
  intro j wd v at' h1 h2 h3 h4
  rw[← h4,hR]
  exact eP _ j wd v [] R h1 h2 h3
 have hX0:0<=X 0/\X 0<256 ^ 1:=by
  simp[oJ] at hk
  omega
 intro k aoj
 have:k=0\/k=1\/k=2\/k=3\/k=4\/k=5\/k=6\/k=7\/k=8\/k=9\/k=10\/k=11\/k=12:=by omega
 rcases this with rfl | rfl | rfl | rfl | rfl | rfl | rfl | rfl | rfl | rfl | rfl | rfl | rfl
 ·exact(ah8 zs).trans (g 0 1 (X 0) 0 rfl (by omega) hX0 rfl)
 ·exact(ah7 zs).trans (g 2 2 (X 1) 2 rfl (by omega) (gu h2 _ (by simp)) rfl)
 ·exact(ah6 zs).trans (g 3 4 (X 2) 4 rfl (by omega) (gu h4 _ (by simp)) rfl)
 ·exact(ah5 zs).trans (g 4 2 (X 3) 8 rfl (by omega) (gu h8 _ (by simp[iT])) rfl)
 ·exact(ah4 zs).trans (g 5 2 (X 4) 10 rfl (by omega) (gu h8 _ (by simp[iT])) rfl)
 ·exact(ah3 zs).trans (g 6 2 (X 5) 12 rfl (by omega) (gu h8 _ (by simp[iT])) rfl)
 ·exact(ah2 zs).trans (g 7 2 (X 6) 14 rfl (by omega) (gu h8 _ (by simp[iT])) rfl)
 ·exact(ah1 zs).trans (g 8 2 (X 7) 16 rfl (by omega) (gu h8 _ (by simp[iT])) rfl)
 ·exact(ah0 zs).trans (g 9 2 (X 8) 18 rfl (by omega) (gu h8 _ (by simp[iT])) rfl)
 ·exact(ahz zs).trans (g 10 2 (X 9) 20 rfl (by omega) (gu h8 _ (by simp[iT])) rfl)
 ·exact(af6 zs).trans (g 11 2 (X 10) 22 rfl (by omega) (gu h8 _ (by simp[iT])) rfl)
 ·exact(af5 zs).trans (g 12 2 (X 11) 24 rfl (by omega) (gu h2 _ (by simp)) rfl)
 ·exact(af4 zs).trans (g 13 2 (X 12) 26 rfl (by omega) (gu h2 _ (by simp)) rfl)
def bI (X:Nat->Int):Prop:=oJ (X 0)=true/\(X 0==0)=false/\adw X=true
theorem bI.bad {X}(h:bI X):oM X=false:=by
 unfold oM
 rw[h.1,h.2.1]
 rfl
theorem yL {X Y:Nat->Int}(h:∀ k,k<13->X k=Y k):Iv X=Iv Y:=by
 unfold Iv
 rw[h 0 (by omega),h 1 (by omega),h 2 (by omega),h 3 (by omega),h 4 (by omega),h 5 (by omega),h 6 (by omega),h 7 (by omega),h 8 (by omega),h 9 (by omega),h 10 (by omega),h 11 (by omega),h 12 (by omega)]
theorem abo {X Y:Nat->Int}(h:∀ k,k<13->X k=Y k):dI X=dI Y:=by
 unfold dI iT
 rw[h 0 (by omega),h 1 (by omega),h 2 (by omega),h 3 (by omega),h 4 (by omega),h 5 (by omega),h 6 (by omega),h 7 (by omega),h 8 (by omega),h 9 (by omega),h 10 (by omega),h 11 (by omega),h 12 (by omega)]
theorem abp {X Y:Nat->Int}(h:∀ k,k<13->X k=Y k):adw X=adw Y:=by
 unfold adw iT
 rw[h 1 (by omega),h 2 (by omega),h 3 (by omega),h 4 (by omega),h 5 (by omega),h 6 (by omega),h 7 (by omega),h 8 (by omega),h 9 (by omega),h 10 (by omega),h 11 (by omega),h 12 (by omega)]
theorem vJ {X Y:Nat->Int}(h:∀ k,k<13->X k=Y k):oM X=oM Y:=by
 unfold oM
 rw[h 0 (by omega)]
 have:jX X wI=jX Y wI:=by
  cases hx:jX X wI with
  | true=>exact(iO.2 fun k hk=>by rw[← h k hk];exact iO.1 hx k hk).symm
  | false =>
   cases hy:jX Y wI with
   | false=>rfl
   | true=>rw[iO.2 fun k hk=>by rw[h k hk];exact iO.1 hy k hk] at hx;cases hx
 rw[this]
theorem aaf {X}(h:bI X):ny (bP 32 (dI X)):=by
 have e:=aag h.1 h.2.2
 refine⟨?_,?_,?_,?_⟩
 ·rw[vJ e];exact h.bad
 ·rw[abp e];exact h.2.2
 ·rw[abo e]
 ·rw[e 0 (by omega)];exact h.2.1
theorem aae {X}(h:bI X):Iv (cu (bP 32 (dI X)))=Iv X:=yL (aag h.1 h.2.2)
end Go.Proofs.YtbofhdfhhbgdgaaGreatDoor
