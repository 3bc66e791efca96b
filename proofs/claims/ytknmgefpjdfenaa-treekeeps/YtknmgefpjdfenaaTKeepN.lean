/- TreeKeeps where there is nothing to write, or too much. -/
import Derived.Test.YtknmgefpjdfenaaTKeeps
namespace Go.Proofs.Ytknmgefpjdfenaa
open Go.RowKit Go.Shelf Go.Maps
set_option linter.unusedVariables false
set_option maxRecDepth 100000

theorem keeps_skip (a : Option Addr) (len cap : Nat) (y : Int) (W : World) (h : len = 0 ∨ 300 < len) :
    Calls Try.prog 3 #[.slice a len cap, .int .u8 y] W fun e w' => e = .returned (.bool true) ∧ Below W.heap.size W w' := by
  have KWk := hide (wakes_any W)
  rcases h with rfl | h
  · go_enter Try.func3, Try.ntmps3
    go_wp2_with fail
    refine (unhide KWk).mono ?_
    rintro e w1 ⟨rfl, hb⟩
    clear KWk
    go_wp2_with fail
    go_ret
    exact ⟨rfl, hb⟩
  · have d1 : decide ((len : Int) > 300) = true := by simp; omega
    go_enter Try.func3, Try.ntmps3
    go_wp2_with fail
    refine (unhide KWk).mono ?_
    rintro e w1 ⟨rfl, hb⟩
    clear KWk
    go_wp2_with fail
    go_ret
    exact ⟨rfl, hb⟩

theorem keeps_all (a : Option Addr) (len cap : Nat) (zs : List Int) (y : Int) (W : World) (hR : Row W.heap.size W a len cap zs) :
    Calls Try.prog 3 #[.slice a len cap, .int .u8 y] W fun e w' => e = .returned (.bool true) ∧ Below W.heap.size W w' := by
  by_cases h1 : 1 ≤ len
  · by_cases h2 : len ≤ 300
    · obtain ⟨b, off, rfl, _⟩ := hR.2.2.2.2 h1
      exact keeps_walk ⟨b, off, none⟩ len cap zs y W hR h1 h2
    · exact keeps_skip a len cap y W (.inr (by omega))
  · exact keeps_skip a len cap y W (.inl (by omega))

end Go.Proofs.Ytknmgefpjdfenaa
