/- The contracts of the reference's small functions. -/
import Derived.Test.YtpkhllpghjldhaaPLay
namespace Go.Proofs.Ytpkhllpghjldhaa
open Go.RowKit Go.Shelf
set_option linter.unusedVariables false

theorem cd_unique {n e k : Int} (he : 1 ≤ e) (h1 : n ≤ k * e) (h2 : k * e < n + e) : cd n e = k := by
  unfold cd
  have a : k ≤ (n + e - 1) / e := by rw [Int.le_ediv_iff_mul_le (by omega)]; omega
  have b : (n + e - 1) / e < k + 1 := by rw [Int.ediv_lt_iff_lt_mul (by omega), Int.add_mul]; omega
  omega

end Go.Proofs.Ytpkhllpghjldhaa
