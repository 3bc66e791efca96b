/- An inode that is written is read again. -/
import Derived.Test.YtefdkpbmeoakgaaGreatDoorDnJ22
import Derived.Test.YtefdkpbmeoakgaaGreatDoorDnJ21
namespace Go.Proofs.YtefdkpbmeoakgaaGreatDoor
set_option maxRecDepth 100000
set_option maxHeartbeats 8000000
open Go.RowKit Go.Shelf
set_option linter.unusedVariables false
theorem ahK (zs:List Int):bD zs 0=ak zs 0 1:=rfl
theorem ahJ (zs:List Int):bD zs 1=ak zs 2 2:=rfl
theorem ahI (zs:List Int):bD zs 2=ak zs 4 4:=rfl
theorem ahH (zs:List Int):bD zs 3=ak zs 8 2:=rfl
theorem ahG (zs:List Int):bD zs 4=ak zs 10 2:=rfl
theorem ahF (zs:List Int):bD zs 5=ak zs 12 2:=rfl
theorem ahE (zs:List Int):bD zs 6=ak zs 14 2:=rfl
theorem ahD (zs:List Int):bD zs 7=ak zs 16 2:=rfl
theorem ahC (zs:List Int):bD zs 8=ak zs 18 2:=rfl
theorem ahB (zs:List Int):bD zs 9=ak zs 20 2:=rfl
theorem afL (zs:List Int):bD zs 10=ak zs 22 2:=rfl
theorem afK (zs:List Int):bD zs 11=ak zs 24 2:=rfl
theorem afJ (zs:List Int):bD zs 12=ak zs 26 2:=rfl
theorem aaA {X:Nat->Int}(hk:mg (X 0)=true)(hf:afM X=true):∀ k,k<13->bD (aZ 32 (dP X)) k=X k:=by
 have hf':=hf
 unfold afM at hf'
 simp only[Bool.and_eq_true] at hf'
 obtain⟨⟨h4,h2⟩,h8⟩:=hf'
 obtain⟨R,hR⟩:∃ R,aZ 32 (dP X)=[]++(aef [(1,X 0),(1,0),(2,X 1),(4,X 2),(2,X 3),(2,X 4),(2,X 5),(2,X 6),(2,X 7),(2,X 8),(2,X 9),(2,X 10),(2,X 11),(2,X 12)]++R):=⟨_,by simp only[aZ,dP,iE,aH,aef,List.map_cons,List.map_nil,List.flatten_cons,List.flatten_nil,List.append_nil,List.append_assoc,List.nil_append];rfl⟩
 generalize aZ 32 (dP X)=zs at *
 have g:∀ (j wd:Nat) (v:Int) (at':Int),[(1,X 0),(1,0),(2,X 1),(4,X 2),(2,X 3),(2,X 4),(2,X 5),(2,X 6),(2,X 7),(2,X 8),(2,X 9),(2,X 10),(2,X 11),(2,X 12)][j]?=some (wd,v)->(wd=1\/wd=2\/wd=4)->0<=v/\v<256 ^ wd->((0+ajg [(1,X 0),(1,0),(2,X 1),(4,X 2),(2,X 3),(2,X 4),(2,X 5),(2,X 6),(2,X 7),(2,X 8),(2,X 9),(2,X 10),(2,X 11),(2,X 12)] j:Nat):Int)=at'->ak zs at' (wd:Int)=v:=by
  intro j wd v at' h1 h2 h3 h4
  rw[← h4,hR]
  exact fJ _ j wd v [] R h1 h2 h3
 have hX0:0<=X 0/\X 0<256 ^ 1:=by
  simp[mg] at hk
  omega
 intro k aoa
 have:k=0\/k=1\/k=2\/k=3\/k=4\/k=5\/k=6\/k=7\/k=8\/k=9\/k=10\/k=11\/k=12:=by omega
 rcases this with rfl | rfl | rfl | rfl | rfl | rfl | rfl | rfl | rfl | rfl | rfl | rfl | rfl
 ·exact(ahK zs).trans (g 0 1 (X 0) 0 rfl (by omega) hX0 rfl)
 ·exact(ahJ zs).trans (g 2 2 (X 1) 2 rfl (by omega) (ig h2 _ (by simp)) rfl)
 ·exact(ahI zs).trans (g 3 4 (X 2) 4 rfl (by omega) (ig h4 _ (by simp)) rfl)
 ·exact(ahH zs).trans (g 4 2 (X 3) 8 rfl (by omega) (ig h8 _ (by simp[iE])) rfl)
 ·exact(ahG zs).trans (g 5 2 (X 4) 10 rfl (by omega) (ig h8 _ (by simp[iE])) rfl)
 ·exact(ahF zs).trans (g 6 2 (X 5) 12 rfl (by omega) (ig h8 _ (by simp[iE])) rfl)
 ·exact(ahE zs).trans (g 7 2 (X 6) 14 rfl (by omega) (ig h8 _ (by simp[iE])) rfl)
 ·exact(ahD zs).trans (g 8 2 (X 7) 16 rfl (by omega) (ig h8 _ (by simp[iE])) rfl)
 ·exact(ahC zs).trans (g 9 2 (X 8) 18 rfl (by omega) (ig h8 _ (by simp[iE])) rfl)
 ·exact(ahB zs).trans (g 10 2 (X 9) 20 rfl (by omega) (ig h8 _ (by simp[iE])) rfl)
 ·exact(afL zs).trans (g 11 2 (X 10) 22 rfl (by omega) (ig h8 _ (by simp[iE])) rfl)
 ·exact(afK zs).trans (g 12 2 (X 11) 24 rfl (by omega) (ig h2 _ (by simp)) rfl)
 ·exact(afJ zs).trans (g 13 2 (X 12) 26 rfl (by omega) (ig h2 _ (by simp)) rfl)
def bM (X:Nat->Int):Prop:=mg (X 0)=true/\(X 0==0)=false/\afM X=true
theorem bM.bad {X}(h:bM X):pU X=false:=by
 unfold pU
 rw[h.1,h.2.1]
 rfl
theorem zF {X Y:Nat->Int}(h:∀ k,k<13->X k=Y k):Iv X=Iv Y:=by
 unfold Iv
 rw[h 0 (by omega),h 1 (by omega),h 2 (by omega),h 3 (by omega),h 4 (by omega),h 5 (by omega),h 6 (by omega),h 7 (by omega),h 8 (by omega),h 9 (by omega),h 10 (by omega),h 11 (by omega),h 12 (by omega)]
theorem abA {X Y:Nat->Int}(h:∀ k,k<13->X k=Y k):dP X=dP Y:=by
 unfold dP iE
 rw[h 0 (by omega),h 1 (by omega),h 2 (by omega),h 3 (by omega),h 4 (by omega),h 5 (by omega),h 6 (by omega),h 7 (by omega),h 8 (by omega),h 9 (by omega),h 10 (by omega),h 11 (by omega),h 12 (by omega)]
theorem abB {X Y:Nat->Int}(h:∀ k,k<13->X k=Y k):afM X=afM Y:=by
 unfold afM iE
 rw[h 1 (by omega),h 2 (by omega),h 3 (by omega),h 4 (by omega),h 5 (by omega),h 6 (by omega),h 7 (by omega),h 8 (by omega),h 9 (by omega),h 10 (by omega),h 11 (by omega),h 12 (by omega)]
theorem wO {X Y:Nat->Int}(h:∀ k,k<13->X k=Y k):pU X=pU Y:=by
 unfold pU
 rw[h 0 (by omega)]
 have:gY X dB=gY Y dB:=by
  cases hx:gY X dB with
  | true=>exact(iV.2 fun k hk=>by rw[← h k hk];exact iV.1 hx k hk).symm
  | false =>
   cases hy:gY Y dB with
   | false=>rfl
   | true=>rw[iV.2 fun k hk=>by rw[h k hk];exact iV.1 hy k hk] at hx;cases hx
 rw[this]
theorem agH {X}(h:bM X):pR (aZ 32 (dP X)):=by
 have e:=aaA h.1 h.2.2
 refine⟨?_,?_,?_,?_⟩
 ·rw[wO e];exact h.bad
 ·rw[abB e];exact h.2.2
 ·rw[abA e]
 ·rw[e 0 (by omega)];exact h.2.1
theorem agG {X}(h:bM X):Iv (bD (aZ 32 (dP X)))=Iv X:=zF (aaA h.1 h.2.2)
end Go.Proofs.YtefdkpbmeoakgaaGreatDoor
