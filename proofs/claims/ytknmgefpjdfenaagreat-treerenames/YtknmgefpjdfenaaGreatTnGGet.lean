/- The contract of field.Get. -/
import Derived.Test.YtknmgefpjdfenaaGreatTnGBack
import Derived.Test.YtknmgefpjdfenaaGreatTnGCheck
import Derived.Test.YtknmgefpjdfenaaGreatTnGNum
namespace Go.Proofs.YtknmgefpjdfenaaGreat
open Go.RowKit Go.Shelf
set_option linter.unusedVariables false
attribute [local go_sem] Oper.semAt_some

/-- What Get reads. -/
def getVal (zs : List Int) (at' n : Int) : Int := if numErr zs.length at' n = 0 then num ((zs.drop at'.toNat).take n.toNat) else 0

theorem came_vals {len : Nat} {l : List Int} {ys : List (Pt len)} (h : Came len (fun j z => z = l[j]?.getD 0) len ys) (hl : l.length = len) : ys.map (fun x => x.1.2) = l.reverse := by
  have h1 : ys.map (fun x => x.1.2) = (ys.map (fun x => x.1.1)).map (fun j => l[j]?.getD 0) := by
    rw [List.map_map]
    exact List.map_congr_left (fun x hx => h.2 x hx)
  rw [h1, h.1, desc]
  apply List.ext_getElem
  · simp [hl]
  · intro i h2 h3
    have : i < len := by simpa using h2
    have h4 : len - 1 - i < l.length := by omega
    simp only [List.getElem_map, List.getElem_range, List.getElem_reverse, List.getElem?_eq_getElem h4, Option.getD_some]
    congr 1; omega

end Go.Proofs.YtknmgefpjdfenaaGreat
