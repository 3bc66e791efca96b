/- An inode that is written is read again. -/
import Derived.Test.YtbofhdfhhbgdgaaGreatDoorIkJ24
import Derived.Test.YtbofhdfhhbgdgaaGreatDoorIkJ23
namespace Go.Proofs.YtbofhdfhhbgdgaaGreatDoor
set_option maxRecDepth 100000
set_option maxHeartbeats 8000000
open Go.RowKit Go.Shelf
set_option linter.unusedVariables false
theorem ahy (zs:List Int):cu zs 0=ak zs 0 1:=rfl
theorem ahx (zs:List Int):cu zs 1=ak zs 2 2:=rfl
theorem ahw (zs:List Int):cu zs 2=ak zs 4 4:=rfl
theorem ahv (zs:List Int):cu zs 3=ak zs 8 2:=rfl
theorem ahu (zs:List Int):cu zs 4=ak zs 10 2:=rfl
theorem aht (zs:List Int):cu zs 5=ak zs 12 2:=rfl
theorem ahs (zs:List Int):cu zs 6=ak zs 14 2:=rfl
theorem ahr (zs:List Int):cu zs 7=ak zs 16 2:=rfl
theorem ahq (zs:List Int):cu zs 8=ak zs 18 2:=rfl
theorem ahp (zs:List Int):cu zs 9=ak zs 20 2:=rfl
theorem af0 (zs:List Int):cu zs 10=ak zs 22 2:=rfl
theorem afz (zs:List Int):cu zs 11=ak zs 24 2:=rfl
theorem afy (zs:List Int):cu zs 12=ak zs 26 2:=rfl
theorem zZ {X:Nat->Int}(hk:oD (X 0)=true)(hf:ads X=true):∀ k,k<13->cu (bP 32 (dI X)) k=X k:=by
 have hf':=hf
 unfold ads at hf'
 simp only[Bool.and_eq_true] at hf'
 obtain⟨⟨h4,h2⟩,h8⟩:=hf'
 obtain⟨R,hR⟩:∃ R,bP 32 (dI X)=[]++(adK [(1,X 0),(1,0),(2,X 1),(4,X 2),(2,X 3),(2,X 4),(2,X 5),(2,X 6),(2,X 7),(2,X 8),(2,X 9),(2,X 10),(2,X 11),(2,X 12)]++R):=⟨_,by simp only[bP,dI,iR,aO,adK,List.map_cons,List.map_nil,List.flatten_cons,List.flatten_nil,List.append_nil,List.append_assoc,List.nil_append];rfl⟩
 generalize bP 32 (dI X)=zs at *
 have g:∀ (j wd:Nat) (v:Int) (at':Int),[(1,X 0),(1,0),(2,X 1),(4,X 2),(2,X 3),(2,X 4),(2,X 5),(2,X 6),(2,X 7),(2,X 8),(2,X 9),(2,X 10),(2,X 11),(2,X 12)][j]?=some (wd,v)->(wd=1\/wd=2\/wd=4)->0<=v/\v<256 ^ wd->((0+aiC [(1,X 0),(1,0),(2,X 1),(4,X 2),(2,X 3),(2,X 4),(2,X 5),(2,X 6),(2,X 7),(2,X 8),(2,X 9),(2,X 10),(2,X 11),(2,X 12)] j:Nat):Int)=at'->ak zs at' (wd:Int)=v:=by
  intro j wd v at' h1 h2 h3 h4
  rw[← h4,hR]
  exact eP _ j wd v [] R h1 h2 h3
 have hX0:0<=X 0/\X 0<256 ^ 1:=by
  simp[oD] at hk
  omega
 intro k anU
 have:k=0\/k=1\/k=2\/k=3\/k=4\/k=5\/k=6\/k=7\/k=8\/k=9\/k=10\/k=11\/k=12:=by omega
 rcases this with rfl | rfl | rfl | rfl | rfl | rfl | rfl | rfl | rfl | rfl | rfl | rfl | rfl
 ·exact(ahy zs).trans (g 0 1 (X 0) 0 rfl (by omega) hX0 rfl)
 ·exact(ahx zs).trans (g 2 2 (X 1) 2 rfl (by omega) (gu h2 _ (by simp)) rfl)
 ·exact(ahw zs).trans (g 3 4 (X 2) 4 rfl (by omega) (gu h4 _ (by simp)) rfl)
 ·exact(ahv zs).trans (g 4 2 (X 3) 8 rfl (by omega) (gu h8 _ (by simp[iR])) rfl)
 ·exact(ahu zs).trans (g 5 2 (X 4) 10 rfl (by omega) (gu h8 _ (by simp[iR])) rfl)
 ·exact(aht zs).trans (g 6 2 (X 5) 12 rfl (by omega) (gu h8 _ (by simp[iR])) rfl)
 ·exact(ahs zs).trans (g 7 2 (X 6) 14 rfl (by omega) (gu h8 _ (by simp[iR])) rfl)
 ·exact(ahr zs).trans (g 8 2 (X 7) 16 rfl (by omega) (gu h8 _ (by simp[iR])) rfl)
 ·exact(ahq zs).trans (g 9 2 (X 8) 18 rfl (by omega) (gu h8 _ (by simp[iR])) rfl)
 ·exact(ahp zs).trans (g 10 2 (X 9) 20 rfl (by omega) (gu h8 _ (by simp[iR])) rfl)
 ·exact(af0 zs).trans (g 11 2 (X 10) 22 rfl (by omega) (gu h8 _ (by simp[iR])) rfl)
 ·exact(afz zs).trans (g 12 2 (X 11) 24 rfl (by omega) (gu h2 _ (by simp)) rfl)
 ·exact(afy zs).trans (g 13 2 (X 12) 26 rfl (by omega) (gu h2 _ (by simp)) rfl)
def bI (X:Nat->Int):Prop:=oD (X 0)=true/\(X 0==0)=false/\ads X=true
theorem bI.bad {X}(h:bI X):oI X=false:=by
 unfold oI
 rw[h.1,h.2.1]
 rfl
theorem yI {X Y:Nat->Int}(h:∀ k,k<13->X k=Y k):Iv X=Iv Y:=by
 unfold Iv
 rw[h 0 (by omega),h 1 (by omega),h 2 (by omega),h 3 (by omega),h 4 (by omega),h 5 (by omega),h 6 (by omega),h 7 (by omega),h 8 (by omega),h 9 (by omega),h 10 (by omega),h 11 (by omega),h 12 (by omega)]
theorem abg {X Y:Nat->Int}(h:∀ k,k<13->X k=Y k):dI X=dI Y:=by
 unfold dI iR
 rw[h 0 (by omega),h 1 (by omega),h 2 (by omega),h 3 (by omega),h 4 (by omega),h 5 (by omega),h 6 (by omega),h 7 (by omega),h 8 (by omega),h 9 (by omega),h 10 (by omega),h 11 (by omega),h 12 (by omega)]
theorem abh {X Y:Nat->Int}(h:∀ k,k<13->X k=Y k):ads X=ads Y:=by
 unfold ads iR
 rw[h 1 (by omega),h 2 (by omega),h 3 (by omega),h 4 (by omega),h 5 (by omega),h 6 (by omega),h 7 (by omega),h 8 (by omega),h 9 (by omega),h 10 (by omega),h 11 (by omega),h 12 (by omega)]
theorem vH {X Y:Nat->Int}(h:∀ k,k<13->X k=Y k):oI X=oI Y:=by
 unfold oI
 rw[h 0 (by omega)]
 have:jS X wG=jS Y wG:=by
  cases hx:jS X wG with
  | true=>exact(iM.2 fun k hk=>by rw[← h k hk];exact iM.1 hx k hk).symm
  | false =>
   cases hy:jS Y wG with
   | false=>rfl
   | true=>rw[iM.2 fun k hk=>by rw[h k hk];exact iM.1 hy k hk] at hx;cases hx
 rw[this]
theorem zY {X}(h:bI X):mO (bP 32 (dI X)):=by
 have e:=zZ h.1 h.2.2
 refine⟨?_,?_,?_,?_⟩
 ·rw[vH e];exact h.bad
 ·rw[abh e];exact h.2.2
 ·rw[abg e]
 ·rw[e 0 (by omega)];exact h.2.1
theorem zX {X}(h:bI X):Iv (cu (bP 32 (dI X)))=Iv X:=yI (zZ h.1 h.2.2)
end Go.Proofs.YtbofhdfhhbgdgaaGreatDoor
