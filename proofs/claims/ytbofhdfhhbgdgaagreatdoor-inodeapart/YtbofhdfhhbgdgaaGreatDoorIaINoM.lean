/- An inode that is written is read again. -/
import Derived.Test.YtbofhdfhhbgdgaaGreatDoorIaJ24
import Derived.Test.YtbofhdfhhbgdgaaGreatDoorIaJ23
namespace Go.Proofs.YtbofhdfhhbgdgaaGreatDoor
set_option maxRecDepth 100000
set_option maxHeartbeats 8000000
open Go.RowKit Go.Shelf
set_option linter.unusedVariables false
theorem aiw (zs:List Int):bH zs 0=ak zs 0 1:=rfl
theorem aiv (zs:List Int):bH zs 1=ak zs 2 2:=rfl
theorem aiu (zs:List Int):bH zs 2=ak zs 4 4:=rfl
theorem ait (zs:List Int):bH zs 3=ak zs 8 2:=rfl
theorem ais (zs:List Int):bH zs 4=ak zs 10 2:=rfl
theorem air (zs:List Int):bH zs 5=ak zs 12 2:=rfl
theorem aiq (zs:List Int):bH zs 6=ak zs 14 2:=rfl
theorem aip (zs:List Int):bH zs 7=ak zs 16 2:=rfl
theorem aio (zs:List Int):bH zs 8=ak zs 18 2:=rfl
theorem ain (zs:List Int):bH zs 9=ak zs 20 2:=rfl
theorem agj (zs:List Int):bH zs 10=ak zs 22 2:=rfl
theorem agi (zs:List Int):bH zs 11=ak zs 24 2:=rfl
theorem agh (zs:List Int):bH zs 12=ak zs 26 2:=rfl
theorem aaz {X:Nat->Int}(hk:oL (X 0)=true)(hf:adN X=true):∀ k,k<13->bH (bW 32 (dI X)) k=X k:=by
 have hf':=hf
 unfold adN at hf'
 simp only[Bool.and_eq_true] at hf'
 obtain⟨⟨h4,h2⟩,h8⟩:=hf'
 obtain⟨R,hR⟩:∃ R,bW 32 (dI X)=[]++(aer [(1,X 0),(1,0),(2,X 1),(4,X 2),(2,X 3),(2,X 4),(2,X 5),(2,X 6),(2,X 7),(2,X 8),(2,X 9),(2,X 10),(2,X 11),(2,X 12)]++R):=⟨_,by simp only[bW,dI,iR,aS,aer,List.map_cons,List.map_nil,List.flatten_cons,List.flatten_nil,List.append_nil,List.append_assoc,List.nil_append];rfl⟩
 generalize bW 32 (dI X)=zs at *
 have g:∀ (j wd:Nat) (v:Int) (at':Int),[(1,X 0),(1,0),(2,X 1),(4,X 2),(2,X 3),(2,X 4),(2,X 5),(2,X 6),(2,X 7),(2,X 8),(2,X 9),(2,X 10),(2,X 11),(2,X 12)][j]?=some (wd,v)->(wd=1\/wd=2\/wd=4)->0<=v/\v<256 ^ wd->((0+aj3 [(1,X 0),(1,0),(2,X 1),(4,X 2),(2,X 3),(2,X 4),(2,X 5),(2,X 6),(2,X 7),(2,X 8),(2,X 9),(2,X 10),(2,X 11),(2,X 12)] j:Nat):Int)=at'->ak zs at' (wd:Int)=v:=by
  intro j wd v at' h1 h2 h3 h4
  rw[← h4,hR]
  exact fA _ j wd v [] R h1 h2 h3
 have hX0:0<=X 0/\X 0<256 ^ 1:=by
  simp[oL] at hk
  omega
 intro k aoE
 have:k=0\/k=1\/k=2\/k=3\/k=4\/k=5\/k=6\/k=7\/k=8\/k=9\/k=10\/k=11\/k=12:=by omega
 rcases this with rfl | rfl | rfl | rfl | rfl | rfl | rfl | rfl | rfl | rfl | rfl | rfl | rfl
 ·exact(aiw zs).trans (g 0 1 (X 0) 0 rfl (by omega) hX0 rfl)
 ·exact(aiv zs).trans (g 2 2 (X 1) 2 rfl (by omega) (gy h2 _ (by simp)) rfl)
 ·exact(aiu zs).trans (g 3 4 (X 2) 4 rfl (by omega) (gy h4 _ (by simp)) rfl)
 ·exact(ait zs).trans (g 4 2 (X 3) 8 rfl (by omega) (gy h8 _ (by simp[iR])) rfl)
 ·exact(ais zs).trans (g 5 2 (X 4) 10 rfl (by omega) (gy h8 _ (by simp[iR])) rfl)
 ·exact(air zs).trans (g 6 2 (X 5) 12 rfl (by omega) (gy h8 _ (by simp[iR])) rfl)
 ·exact(aiq zs).trans (g 7 2 (X 6) 14 rfl (by omega) (gy h8 _ (by simp[iR])) rfl)
 ·exact(aip zs).trans (g 8 2 (X 7) 16 rfl (by omega) (gy h8 _ (by simp[iR])) rfl)
 ·exact(aio zs).trans (g 9 2 (X 8) 18 rfl (by omega) (gy h8 _ (by simp[iR])) rfl)
 ·exact(ain zs).trans (g 10 2 (X 9) 20 rfl (by omega) (gy h8 _ (by simp[iR])) rfl)
 ·exact(agj zs).trans (g 11 2 (X 10) 22 rfl (by omega) (gy h8 _ (by simp[iR])) rfl)
 ·exact(agi zs).trans (g 12 2 (X 11) 24 rfl (by omega) (gy h2 _ (by simp)) rfl)
 ·exact(agh zs).trans (g 13 2 (X 12) 26 rfl (by omega) (gy h2 _ (by simp)) rfl)
def bP (X:Nat->Int):Prop:=oL (X 0)=true/\(X 0==0)=false/\adN X=true
theorem bP.bad {X}(h:bP X):oO X=false:=by
 unfold oO
 rw[h.1,h.2.1]
 rfl
theorem zu {X Y:Nat->Int}(h:∀ k,k<13->X k=Y k):Iv X=Iv Y:=by
 unfold Iv
 rw[h 0 (by omega),h 1 (by omega),h 2 (by omega),h 3 (by omega),h 4 (by omega),h 5 (by omega),h 6 (by omega),h 7 (by omega),h 8 (by omega),h 9 (by omega),h 10 (by omega),h 11 (by omega),h 12 (by omega)]
theorem ab9 {X Y:Nat->Int}(h:∀ k,k<13->X k=Y k):dI X=dI Y:=by
 unfold dI iR
 rw[h 0 (by omega),h 1 (by omega),h 2 (by omega),h 3 (by omega),h 4 (by omega),h 5 (by omega),h 6 (by omega),h 7 (by omega),h 8 (by omega),h 9 (by omega),h 10 (by omega),h 11 (by omega),h 12 (by omega)]
theorem abA {X Y:Nat->Int}(h:∀ k,k<13->X k=Y k):adN X=adN Y:=by
 unfold adN iR
 rw[h 1 (by omega),h 2 (by omega),h 3 (by omega),h 4 (by omega),h 5 (by omega),h 6 (by omega),h 7 (by omega),h 8 (by omega),h 9 (by omega),h 10 (by omega),h 11 (by omega),h 12 (by omega)]
theorem wo {X Y:Nat->Int}(h:∀ k,k<13->X k=Y k):oO X=oO Y:=by
 unfold oO
 rw[h 0 (by omega)]
 have:jX X xu=jX Y xu:=by
  cases hx:jX X xu with
  | true=>exact(iM.2 fun k hk=>by rw[← h k hk];exact iM.1 hx k hk).symm
  | false =>
   cases hy:jX Y xu with
   | false=>rfl
   | true=>rw[iM.2 fun k hk=>by rw[h k hk];exact iM.1 hy k hk] at hx;cases hx
 rw[this]
theorem aay {X}(h:bP X):iY (bW 32 (dI X)):=by
 have e:=aaz h.1 h.2.2
 refine⟨?_,?_,?_,?_⟩
 ·rw[wo e];exact h.bad
 ·rw[abA e];exact h.2.2
 ·rw[ab9 e]
 ·rw[e 0 (by omega)];exact h.2.1
theorem aax {X}(h:bP X):Iv (bH (bW 32 (dI X)))=Iv X:=zu (aaz h.1 h.2.2)
end Go.Proofs.YtbofhdfhhbgdgaaGreatDoor
