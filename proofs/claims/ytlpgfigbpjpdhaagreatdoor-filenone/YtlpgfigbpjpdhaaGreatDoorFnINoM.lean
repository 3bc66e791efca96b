/- An inode that is written is read again. -/
import Derived.Test.YtlpgfigbpjpdhaaGreatDoorFnJ22
import Derived.Test.YtlpgfigbpjpdhaaGreatDoorFnJ21
namespace Go.Proofs.YtlpgfigbpjpdhaaGreatDoor
set_option maxRecDepth 100000
set_option maxHeartbeats 8000000
open Go.RowKit Go.Shelf
set_option linter.unusedVariables false
theorem ahB (zs:List Int):aY zs 0=ak zs 0 1:=rfl
theorem ahA (zs:List Int):aY zs 1=ak zs 2 2:=rfl
theorem ah9 (zs:List Int):aY zs 2=ak zs 4 4:=rfl
theorem ah8 (zs:List Int):aY zs 3=ak zs 8 2:=rfl
theorem ah7 (zs:List Int):aY zs 4=ak zs 10 2:=rfl
theorem ah6 (zs:List Int):aY zs 5=ak zs 12 2:=rfl
theorem ah5 (zs:List Int):aY zs 6=ak zs 14 2:=rfl
theorem ah4 (zs:List Int):aY zs 7=ak zs 16 2:=rfl
theorem ah3 (zs:List Int):aY zs 8=ak zs 18 2:=rfl
theorem ah2 (zs:List Int):aY zs 9=ak zs 20 2:=rfl
theorem afE (zs:List Int):aY zs 10=ak zs 22 2:=rfl
theorem afD (zs:List Int):aY zs 11=ak zs 24 2:=rfl
theorem afC (zs:List Int):aY zs 12=ak zs 26 2:=rfl
theorem aay {X:Nat->Int}(hk:lY (X 0)=true)(hf:afF X=true):∀ k,k<13->aY (dF 32 (dV X)) k=X k:=by
 have hf':=hf
 unfold afF at hf'
 simp only[Bool.and_eq_true] at hf'
 obtain⟨⟨h4,h2⟩,h8⟩:=hf'
 obtain⟨R,hR⟩:∃ R,dF 32 (dV X)=[]++(aec [(1,X 0),(1,0),(2,X 1),(4,X 2),(2,X 3),(2,X 4),(2,X 5),(2,X 6),(2,X 7),(2,X 8),(2,X 9),(2,X 10),(2,X 11),(2,X 12)]++R):=⟨_,by simp only[dF,dV,iC,aC,aec,List.map_cons,List.map_nil,List.flatten_cons,List.flatten_nil,List.append_nil,List.append_assoc,List.nil_append];rfl⟩
 generalize dF 32 (dV X)=zs at *
 have g:∀ (j wd:Nat) (v:Int) (at':Int),[(1,X 0),(1,0),(2,X 1),(4,X 2),(2,X 3),(2,X 4),(2,X 5),(2,X 6),(2,X 7),(2,X 8),(2,X 9),(2,X 10),(2,X 11),(2,X 12)][j]?=some (wd,v)->(wd=1\/wd=2\/wd=4)->0<=v/\v<256 ^ wd->((0+aiS [(1,X 0),(1,0),(2,X 1),(4,X 2),(2,X 3),(2,X 4),(2,X 5),(2,X 6),(2,X 7),(2,X 8),(2,X 9),(2,X 10),(2,X 11),(2,X 12)] j:Nat):Int)=at'->ak zs at' (wd:Int)=v:=by
  intro j wd v at' h1 h2 h3 h4
  rw[← h4,hR]
  exact fO _ j wd v [] R h1 h2 h3
 have hX0:0<=X 0/\X 0<256 ^ 1:=by
  simp[lY] at hk
  omega
 intro k aob
 have:k=0\/k=1\/k=2\/k=3\/k=4\/k=5\/k=6\/k=7\/k=8\/k=9\/k=10\/k=11\/k=12:=by omega
 rcases this with rfl | rfl | rfl | rfl | rfl | rfl | rfl | rfl | rfl | rfl | rfl | rfl | rfl
 ·exact(ahB zs).trans (g 0 1 (X 0) 0 rfl (by omega) hX0 rfl)
 ·exact(ahA zs).trans (g 2 2 (X 1) 2 rfl (by omega) (gZ h2 _ (by simp)) rfl)
 ·exact(ah9 zs).trans (g 3 4 (X 2) 4 rfl (by omega) (gZ h4 _ (by simp)) rfl)
 ·exact(ah8 zs).trans (g 4 2 (X 3) 8 rfl (by omega) (gZ h8 _ (by simp[iC])) rfl)
 ·exact(ah7 zs).trans (g 5 2 (X 4) 10 rfl (by omega) (gZ h8 _ (by simp[iC])) rfl)
 ·exact(ah6 zs).trans (g 6 2 (X 5) 12 rfl (by omega) (gZ h8 _ (by simp[iC])) rfl)
 ·exact(ah5 zs).trans (g 7 2 (X 6) 14 rfl (by omega) (gZ h8 _ (by simp[iC])) rfl)
 ·exact(ah4 zs).trans (g 8 2 (X 7) 16 rfl (by omega) (gZ h8 _ (by simp[iC])) rfl)
 ·exact(ah3 zs).trans (g 9 2 (X 8) 18 rfl (by omega) (gZ h8 _ (by simp[iC])) rfl)
 ·exact(ah2 zs).trans (g 10 2 (X 9) 20 rfl (by omega) (gZ h8 _ (by simp[iC])) rfl)
 ·exact(afE zs).trans (g 11 2 (X 10) 22 rfl (by omega) (gZ h8 _ (by simp[iC])) rfl)
 ·exact(afD zs).trans (g 12 2 (X 11) 24 rfl (by omega) (gZ h2 _ (by simp)) rfl)
 ·exact(afC zs).trans (g 13 2 (X 12) 26 rfl (by omega) (gZ h2 _ (by simp)) rfl)
def cO (X:Nat->Int):Prop:=lY (X 0)=true/\(X 0==0)=false/\afF X=true
theorem cO.bad {X}(h:cO X):pY X=false:=by
 unfold pY
 rw[h.1,h.2.1]
 rfl
theorem zn {X Y:Nat->Int}(h:∀ k,k<13->X k=Y k):Iv X=Iv Y:=by
 unfold Iv
 rw[h 0 (by omega),h 1 (by omega),h 2 (by omega),h 3 (by omega),h 4 (by omega),h 5 (by omega),h 6 (by omega),h 7 (by omega),h 8 (by omega),h 9 (by omega),h 10 (by omega),h 11 (by omega),h 12 (by omega)]
theorem ab3 {X Y:Nat->Int}(h:∀ k,k<13->X k=Y k):dV X=dV Y:=by
 unfold dV iC
 rw[h 0 (by omega),h 1 (by omega),h 2 (by omega),h 3 (by omega),h 4 (by omega),h 5 (by omega),h 6 (by omega),h 7 (by omega),h 8 (by omega),h 9 (by omega),h 10 (by omega),h 11 (by omega),h 12 (by omega)]
theorem ab4 {X Y:Nat->Int}(h:∀ k,k<13->X k=Y k):afF X=afF Y:=by
 unfold afF iC
 rw[h 1 (by omega),h 2 (by omega),h 3 (by omega),h 4 (by omega),h 5 (by omega),h 6 (by omega),h 7 (by omega),h 8 (by omega),h 9 (by omega),h 10 (by omega),h 11 (by omega),h 12 (by omega)]
theorem wO {X Y:Nat->Int}(h:∀ k,k<13->X k=Y k):pY X=pY Y:=by
 unfold pY
 rw[h 0 (by omega)]
 have:gY X bQ=gY Y bQ:=by
  cases hx:gY X bQ with
  | true=>exact(iP.2 fun k hk=>by rw[← h k hk];exact iP.1 hx k hk).symm
  | false =>
   cases hy:gY Y bQ with
   | false=>rfl
   | true=>rw[iP.2 fun k hk=>by rw[h k hk];exact iP.1 hy k hk] at hx;cases hx
 rw[this]
theorem ajd {X}(h:cO X):uw (dF 32 (dV X)):=by
 have e:=aay h.1 h.2.2
 refine⟨?_,?_,?_,?_⟩
 ·rw[wO e];exact h.bad
 ·rw[ab4 e];exact h.2.2
 ·rw[ab3 e]
 ·rw[e 0 (by omega)];exact h.2.1
theorem ajc {X}(h:cO X):Iv (aY (dF 32 (dV X)))=Iv X:=zn (aay h.1 h.2.2)
end Go.Proofs.YtlpgfigbpjpdhaaGreatDoor
