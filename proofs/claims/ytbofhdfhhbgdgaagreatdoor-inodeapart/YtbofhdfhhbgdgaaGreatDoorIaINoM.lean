/- An inode that is written is read again. -/
import Derived.Test.YtbofhdfhhbgdgaaGreatDoorIaJ24
import Derived.Test.YtbofhdfhhbgdgaaGreatDoorIaJ23
namespace Go.Proofs.YtbofhdfhhbgdgaaGreatDoor
set_option maxRecDepth 100000
set_option maxHeartbeats 8000000
open Go.RowKit Go.Shelf
set_option linter.unusedVariables false
theorem ain (zs:List Int):bG zs 0=ak zs 0 1:=rfl
theorem ail (zs:List Int):bG zs 1=ak zs 2 2:=rfl
theorem aik (zs:List Int):bG zs 2=ak zs 4 4:=rfl
theorem aij (zs:List Int):bG zs 3=ak zs 8 2:=rfl
theorem aii (zs:List Int):bG zs 4=ak zs 10 2:=rfl
theorem aif (zs:List Int):bG zs 5=ak zs 12 2:=rfl
theorem aie (zs:List Int):bG zs 6=ak zs 14 2:=rfl
theorem aic (zs:List Int):bG zs 7=ak zs 16 2:=rfl
theorem aib (zs:List Int):bG zs 8=ak zs 18 2:=rfl
theorem aia (zs:List Int):bG zs 9=ak zs 20 2:=rfl
theorem afZ (zs:List Int):bG zs 10=ak zs 22 2:=rfl
theorem afY (zs:List Int):bG zs 11=ak zs 24 2:=rfl
theorem afX (zs:List Int):bG zs 12=ak zs 26 2:=rfl
theorem aar {X:Nat->Int}(hk:oH (X 0)=true)(hf:adE X=true):∀ k,k<13->bG (bW 32 (dG X)) k=X k:=by
 have hf':=hf
 unfold adE at hf'
 simp only[Bool.and_eq_true] at hf'
 obtain⟨⟨h4,h2⟩,h8⟩:=hf'
 obtain⟨R,hR⟩:∃ R,bW 32 (dG X)=[]++(aeh [(1,X 0),(1,0),(2,X 1),(4,X 2),(2,X 3),(2,X 4),(2,X 5),(2,X 6),(2,X 7),(2,X 8),(2,X 9),(2,X 10),(2,X 11),(2,X 12)]++R):=⟨_,by simp only[bW,dG,iJ,aQ,aeh,List.map_cons,List.map_nil,List.flatten_cons,List.flatten_nil,List.append_nil,List.append_assoc,List.nil_append];rfl⟩
 generalize bW 32 (dG X)=zs at *
 have g:∀ (j wd:Nat) (v:Int) (at':Int),[(1,X 0),(1,0),(2,X 1),(4,X 2),(2,X 3),(2,X 4),(2,X 5),(2,X 6),(2,X 7),(2,X 8),(2,X 9),(2,X 10),(2,X 11),(2,X 12)][j]?=some (wd,v)->(wd=1\/wd=2\/wd=4)->0<=v/\v<256 ^ wd->((0+aju [(1,X 0),(1,0),(2,X 1),(4,X 2),(2,X 3),(2,X 4),(2,X 5),(2,X 6),(2,X 7),(2,X 8),(2,X 9),(2,X 10),(2,X 11),(2,X 12)] j:Nat):Int)=at'->ak zs at' (wd:Int)=v:=by
  intro j wd v at' h1 h2 h3 h4
  rw[← h4,hR]
  exact eP _ j wd v [] R h1 h2 h3
 have hX0:0<=X 0/\X 0<256 ^ 1:=by
  simp[oH] at hk
  omega
 intro k ao6
 have:k=0\/k=1\/k=2\/k=3\/k=4\/k=5\/k=6\/k=7\/k=8\/k=9\/k=10\/k=11\/k=12:=by omega
 rcases this with rfl | rfl | rfl | rfl | rfl | rfl | rfl | rfl | rfl | rfl | rfl | rfl | rfl
 ·exact(ain zs).trans (g 0 1 (X 0) 0 rfl (by omega) hX0 rfl)
 ·exact(ail zs).trans (g 2 2 (X 1) 2 rfl (by omega) (fQ h2 _ (by simp)) rfl)
 ·exact(aik zs).trans (g 3 4 (X 2) 4 rfl (by omega) (fQ h4 _ (by simp)) rfl)
 ·exact(aij zs).trans (g 4 2 (X 3) 8 rfl (by omega) (fQ h8 _ (by simp[iJ])) rfl)
 ·exact(aii zs).trans (g 5 2 (X 4) 10 rfl (by omega) (fQ h8 _ (by simp[iJ])) rfl)
 ·exact(aif zs).trans (g 6 2 (X 5) 12 rfl (by omega) (fQ h8 _ (by simp[iJ])) rfl)
 ·exact(aie zs).trans (g 7 2 (X 6) 14 rfl (by omega) (fQ h8 _ (by simp[iJ])) rfl)
 ·exact(aic zs).trans (g 8 2 (X 7) 16 rfl (by omega) (fQ h8 _ (by simp[iJ])) rfl)
 ·exact(aib zs).trans (g 9 2 (X 8) 18 rfl (by omega) (fQ h8 _ (by simp[iJ])) rfl)
 ·exact(aia zs).trans (g 10 2 (X 9) 20 rfl (by omega) (fQ h8 _ (by simp[iJ])) rfl)
 ·exact(afZ zs).trans (g 11 2 (X 10) 22 rfl (by omega) (fQ h8 _ (by simp[iJ])) rfl)
 ·exact(afY zs).trans (g 12 2 (X 11) 24 rfl (by omega) (fQ h2 _ (by simp)) rfl)
 ·exact(afX zs).trans (g 13 2 (X 12) 26 rfl (by omega) (fQ h2 _ (by simp)) rfl)
def bP (X:Nat->Int):Prop:=oH (X 0)=true/\(X 0==0)=false/\adE X=true
theorem bP.bad {X}(h:bP X):oK X=false:=by
 unfold oK
 rw[h.1,h.2.1]
 rfl
theorem yS {X Y:Nat->Int}(h:∀ k,k<13->X k=Y k):Iv X=Iv Y:=by
 unfold Iv
 rw[h 0 (by omega),h 1 (by omega),h 2 (by omega),h 3 (by omega),h 4 (by omega),h 5 (by omega),h 6 (by omega),h 7 (by omega),h 8 (by omega),h 9 (by omega),h 10 (by omega),h 11 (by omega),h 12 (by omega)]
theorem abz {X Y:Nat->Int}(h:∀ k,k<13->X k=Y k):dG X=dG Y:=by
 unfold dG iJ
 rw[h 0 (by omega),h 1 (by omega),h 2 (by omega),h 3 (by omega),h 4 (by omega),h 5 (by omega),h 6 (by omega),h 7 (by omega),h 8 (by omega),h 9 (by omega),h 10 (by omega),h 11 (by omega),h 12 (by omega)]
theorem ab1 {X Y:Nat->Int}(h:∀ k,k<13->X k=Y k):adE X=adE Y:=by
 unfold adE iJ
 rw[h 1 (by omega),h 2 (by omega),h 3 (by omega),h 4 (by omega),h 5 (by omega),h 6 (by omega),h 7 (by omega),h 8 (by omega),h 9 (by omega),h 10 (by omega),h 11 (by omega),h 12 (by omega)]
theorem vW {X Y:Nat->Int}(h:∀ k,k<13->X k=Y k):oK X=oK Y:=by
 unfold oK
 rw[h 0 (by omega)]
 have:jP X wX=jP Y wX:=by
  cases hx:jP X wX with
  | true=>exact(iG.2 fun k hk=>by rw[← h k hk];exact iG.1 hx k hk).symm
  | false =>
   cases hy:jP Y wX with
   | false=>rfl
   | true=>rw[iG.2 fun k hk=>by rw[h k hk];exact iG.1 hy k hk] at hx;cases hx
 rw[this]
theorem aaq {X}(h:bP X):iQ (bW 32 (dG X)):=by
 have e:=aar h.1 h.2.2
 refine⟨?_,?_,?_,?_⟩
 ·rw[vW e];exact h.bad
 ·rw[ab1 e];exact h.2.2
 ·rw[abz e]
 ·rw[e 0 (by omega)];exact h.2.1
theorem aap {X}(h:bP X):Iv (bG (bW 32 (dG X)))=Iv X:=yS (aar h.1 h.2.2)
end Go.Proofs.YtbofhdfhhbgdgaaGreatDoor
