/- walk.Join: every list of texts. -/
import Derived.Test.YtknmgefpjdfenaaGreatSfJ7
import Derived.Shelf.Lay
import Derived.Shelf.Strings.OnBuilder
namespace Go.Proofs.YtknmgefpjdfenaaGreat
set_option maxRecDepth 100000
set_option maxHeartbeats 8000000
open Go.RowKit Go.Shelf
set_option linter.unusedVariables false

shelf_lay Lays.n156 Nm 156 at Tryz as Tryz.joinL

theorem Tryz.joinX:Builder.Extra Tryz.prog Tryz.joinL_ren where
 sizeBuilder:=by kernel_rfl
 liesBuilder:=by kernel_rfl
 t5:=Tryz.underlying5
 a5:=Tryz.isAgg5
 z5:=Tryz.sizeOf5
 v5:=Tryz.zeroValue5
 infoByte:=by kernel_rfl
 cellsByte:=by kernel_rfl
 sizeByte:=by kernel_rfl
 neB5:=by decide

theorem map_St (xs:List (List UInt8)):(xs.map St).map (·.data.toList)=xs:=by
 induction xs with
 | nil=>rfl
 | cons x r ih=>rw [List.map_cons,List.map_cons,ih,data_St]

theorem joinS_any (a:Option Addr) (n c:Nat) (xs:List (List UInt8)) (w:World) (h:HasS w a n xs) (hc:n ≤ c) (hn:n ≤ 16) (hj:(Lib.join xs [47]).length ≤ 140737488355328) :
  Calls Tryz.prog 135 #[.slice a n c,.string ⟨#[47]⟩] w fun e w'=>e=.returned (.string (St (Lib.join xs [47])))∧Below w.heap.size w w':=by
 by_cases h0:n=0
 ·subst h0
  obtain rfl:xs=[]:=List.eq_nil_of_length_eq_zero h.1
  refine (Any.strings_Join_none Tryz.joinL Tryz.joinX a c ⟨#[47]⟩ w).mono ?_
  rintro e w' ⟨rfl,rfl⟩
  exact ⟨rfl,Below.refl _ _⟩
 ·obtain ⟨b,o,rfl,hb,hcl⟩:=h.2 (by omega)
  have hl:(xs.map St).length=n:=by simp [h.1]
  have e:Lib.join ((xs.map St).map (·.data.toList)) (⟨#[47]⟩:ByteArray).data.toList=Lib.join xs [47]:=by rw [map_St]
  have K:=Any.strings_Join Tryz.joinL Tryz.joinX b o c (xs.map St) ⟨#[47]⟩ w (fun j x hx=>by
   rw [List.getElem?_map] at hx
   have hjl:j < n:=by
    cases hj:xs[j]? with
    | none=>rw [hj] at hx; cases hx
    | some y=>have h5:=(List.getElem?_eq_some_iff.1 hj).1; have h6:=h.1; omega
   have:=hcl j hjl
   rw [this]
   cases hj:xs[j]? with
   | none=>rw [hj] at hx; cases hx
   | some y=>rw [hj] at hx; simp at hx; subst hx; rfl) hb (by omega) (by omega) (by rw [e]; exact hj)
  rw [e,hl] at K
  exact K

def jnV (xs:List (List UInt8)):List UInt8:=if okN xs=true then jn xs else []

def jnE (xs:List (List UInt8)):Int:=if okN xs=true then 0 else 16

theorem St_add (l:List UInt8):(⟨#[47]⟩:ByteArray) ++ St l=St (47 :: l):=by
 apply ByteArray.ext
 simp [St]

theorem join_small {xs:List (List UInt8)} (h1:xs.length ≤ 16) (h2:∀ x ∈ xs,nmB x=true):(jn xs).length ≤ 300:=by
 rw [jn_len]
 split
 ·omega
 ·have:∀ (ys:List (List UInt8)),(∀ y ∈ ys,nmB y=true)→(flat ys).length ≤ 14 * ys.length:=by
   intro ys
   induction ys with
   | nil=>intro _; simp [flat]
   | cons y r ih =>
    intro hy
    have h3:=(nmB_len (hy y (by simp))).2
    have h4:=ih (fun z hz=>hy z (by simp [hz]))
    have:flat (y :: r)=47 :: (y ++ flat r):=rfl
    rw [this]
    simp only [List.length_cons,List.length_append]
    omega
  have:=this xs h2
  omega

theorem join_any (a:Option Addr) (n c:Nat) (xs:List (List UInt8)) (w:World) (h:HasS w a n xs) (hc:n ≤ c) (hn:n ≤ 140737488351232) (hm:∀ j:Nat,(xs[j]?.getD []).length ≤ 9223372036854775807) :
  Calls Tryz.prog 114 #[.slice a n c] w fun e w'=>e=.returned (.tuple #[.string (St (jnV xs)),.int .i64 (jnE xs)])∧Below w.heap.size w w':=by
 have hl:=h.1
 by_cases h16:n ≤ 16
 ·have K:=contF_any a n c xs w h hn hm
  by_cases hall:∀ x ∈ xs,nmB x=true
  ·have ha:xs.any (fun x=>!nmB x)=false:=by
    rw [List.any_eq_false]
    intro x hx
    rw [hall x hx]; simp
   rw [ha] at K
   have hsm:=join_small (by omega) hall
   have hjl:(Lib.join xs [47]).length ≤ 140737488355328:=by
    have:=congrArg List.length (jn_join xs)
    simp only [List.length_cons] at this
    omega
   have KJ:Hid (∀ u,Below w.heap.size w u→Calls Tryz.prog 135 #[.slice a n c,.string ⟨#[47]⟩] u fun e w'=>e=.returned (.string (St (Lib.join xs [47])))∧Below u.heap.size u w') :=
    fun u hb=>joinS_any a n c xs u (h.below hb (Nat.le_refl _)) hc h16 hjl
   have e1:=St_add (Lib.join xs [47])
   rw [jn_join] at e1
   have e2:=St_size (jn xs)
   have K:=hide K
   have d16:decide ((n:Int) > 16)=false:=by simp; omega
   clear h hm
   by_cases h200:(jn xs).length ≤ 200
   ·have ok:okN xs=true:=(okN_iff xs).2 ⟨by omega,hall,h200⟩
    unfold jnV jnE
    rw [if_pos ok,if_pos ok]
    have hsz:¬ 9223372036854775807 < 1 + (St (Lib.join xs [47])).size:=by rw [St_size]; omega
    clear ok hall ha hsm hjl hl
    generalize St (Lib.join xs [47])=s at *
    generalize St (jn xs)=sp at *
    have d2:decide ((sp.size:Int) > 200)=false:=by simp; omega
    clear e2 h200
    go_enter Tryz.func114,Tryz.ntmps114
    go_wp2_with fail
    refine (unhide K).mono ?_
    rintro e w1 ⟨rfl,hb⟩
    have HB:=hide hb
    have KJ:=hide (KJ.out w1 hb)
    clear K hb
    go_wp2_with fail
    refine (unhide KJ).mono ?_
    rintro e w2 ⟨rfl,hb⟩
    have HB:=hide (HB.out.trans (hb.mono HB.out.size))
    clear KJ hb
    go_wp2_with fail
    go_ret2
    exact ⟨rfl,HB.out⟩
   ·have ok:¬ okN xs=true:=fun h=>h200 ((okN_iff xs).1 h).2.2
    unfold jnV jnE
    rw [if_neg ok,if_neg ok]
    have hsz:¬ 9223372036854775807 < 1 + (St (Lib.join xs [47])).size:=by rw [St_size]; omega
    clear ok hall ha hsm hjl hl
    generalize St (Lib.join xs [47])=s at *
    generalize St (jn xs)=sp at *
    have d2:decide ((sp.size:Int) > 200)=true:=by simp; omega
    clear e2 h200
    show Calls _ _ _ _ fun e w'=>e=.returned (.tuple #[.string ⟨#[]⟩,.int .i64 16])∧_
    go_enter Tryz.func114,Tryz.ntmps114
    go_wp2_with fail
    refine (unhide K).mono ?_
    rintro e w1 ⟨rfl,hb⟩
    have HB:=hide hb
    have KJ:=hide (KJ.out w1 hb)
    clear K hb
    go_wp2_with fail
    refine (unhide KJ).mono ?_
    rintro e w2 ⟨rfl,hb⟩
    have HB:=hide (HB.out.trans (hb.mono HB.out.size))
    clear KJ hb
    go_wp2_with fail
    go_ret2
    exact ⟨rfl,HB.out⟩
  ·have ha:xs.any (fun x=>!nmB x)=true:=by
    rw [List.any_eq_true]
    simp only [Classical.not_forall] at hall
    obtain ⟨x,hx,hf⟩:=hall
    exact ⟨x,hx,by simpa using hf⟩
   rw [ha] at K
   have K:=hide K
   have ok:¬ okN xs=true:=fun h=>hall ((okN_iff xs).1 h).2.1
   unfold jnV jnE
   rw [if_neg ok,if_neg ok]
   show Calls _ _ _ _ fun e w'=>e=.returned (.tuple #[.string ⟨#[]⟩,.int .i64 16])∧_
   have d16:decide ((n:Int) > 16)=false:=by simp; omega
   clear h hm hall ok ha hl
   go_enter Tryz.func114,Tryz.ntmps114
   go_wp2_with fail
   refine (unhide K).mono ?_
   rintro e w1 ⟨rfl,hb⟩
   have HB:=hide hb
   clear K hb
   go_wp2_with fail
   go_ret2
   exact ⟨rfl,HB.out⟩
 ·have ok:¬ okN xs=true:=fun h=>h16 (by have:=((okN_iff xs).1 h).1; omega)
  unfold jnV jnE
  rw [if_neg ok,if_neg ok]
  show Calls _ _ _ _ fun e w'=>e=.returned (.tuple #[.string ⟨#[]⟩,.int .i64 16])∧_
  have d16:decide ((n:Int) > 16)=true:=by simp; omega
  clear h hm ok hl
  go_enter Tryz.func114,Tryz.ntmps114
  go_wp2_with fail
  go_ret2
  exact ⟨rfl,Below.refl _ _⟩

end Go.Proofs.YtknmgefpjdfenaaGreat
