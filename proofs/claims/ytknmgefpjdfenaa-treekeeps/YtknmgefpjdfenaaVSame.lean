/- skerryref01.SameTexts of equal lists; slices.Equal of lists of texts. -/
import Derived.Test.YtknmgefpjdfenaaVBase
namespace Go.Proofs.Ytknmgefpjdfenaa
open Go.RowKit Go.Shelf
set_option linter.unusedVariables false
set_option maxRecDepth 100000

theorem getD_ext {xs ys : List (List UInt8)} (hl : xs.length = ys.length) (h : ∀ j, j < xs.length → xs[j]?.getD [] = ys[j]?.getD []) : xs = ys := by
  refine List.ext_getElem hl (fun j h1 h2 => ?_)
  have := h j h1
  rwa [List.getElem?_eq_getElem h1, List.getElem?_eq_getElem h2] at this

end Go.Proofs.Ytknmgefpjdfenaa
