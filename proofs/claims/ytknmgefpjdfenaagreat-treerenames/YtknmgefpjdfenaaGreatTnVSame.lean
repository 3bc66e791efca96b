/- skerryref01.SameTexts of equal lists; slices.Equal of lists of texts. -/
import Derived.Test.YtknmgefpjdfenaaGreatTnVBase
namespace Go.Proofs.YtknmgefpjdfenaaGreat
open Go.RowKit Go.Shelf
set_option linter.unusedVariables false
set_option maxRecDepth 100000

theorem getD_ext {xs ys : List (List UInt8)} (hl : xs.length = ys.length) (h : ∀ j, j < xs.length → xs[j]?.getD [] = ys[j]?.getD []) : xs = ys := by
  refine List.ext_getElem hl (fun j h1 h2 => ?_)
  have := h j h1
  rwa [List.getElem?_eq_getElem h1, List.getElem?_eq_getElem h2] at this

set_option maxHeartbeats 1000000 in
theorem equal_any (a1 a2 : Option Addr) (len c1 c2 : Nat) (xs ys : List (List UInt8)) (w : World) (h1 : HasS w a1 len xs) (h2 : HasS w a2 len ys) (hl : len ≤ 140737488351232) :
    Calls Tryz.prog 94 #[.slice a1 len c1, .slice a2 len c2] w fun e w' => e = .returned (.bool (decide (xs = ys))) ∧ ∃ m, w' = w.drewN m := by
  have HE : Hid (∀ k, k < len → xs[k]?.getD [] ≠ ys[k]?.getD [] → decide (xs = ys) = false) := by
    intro k hk hne
    rw [decide_eq_false_iff_not]
    intro e
    exact hne (by rw [e])
  have HT : Hid ((∀ k, k < len → xs[k]?.getD [] = ys[k]?.getD []) → decide (xs = ys) = true) := by
    intro h
    rw [decide_eq_true_eq]
    exact getD_ext (h1.1.trans h2.1.symm) (fun j hj => h j (by rw [h1.1] at hj; exact hj))
  generalize decide (xs = ys) = q at *
  have H1 := hide h1
  have H2 := hide h2
  clear h1 h2
  go_enter Tryz.func94, Tryz.ntmps94
  go_wp2
  go_loopw [13] (fun i wr => ∃ k : Nat, k ≤ len ∧ i = .int .i64 (k : Int) ∧ Hid ((∃ m, wr = w.drewN m) ∧ ∀ j, j < k → xs[j]?.getD [] = ys[j]?.getD [])) (fun i _ => len - (intOf i).toNat)
  case atStart => exact ⟨0, Nat.zero_le _, rfl, ⟨0, rfl⟩, fun j hj => by omega⟩
  case round =>
    obtain ⟨k, hk, rfl, hw⟩ := hrel
    by_cases hlt : k < len
    · obtain ⟨b1, o1, rfl, _, hc1⟩ := H1.out.2 (by omega)
      obtain ⟨b2, o2, rfl, _, hc2⟩ := H2.out.2 (by omega)
      have e1 : wr.cell? ⟨b1, o1 + k, none⟩ = some (.string (St (xs[k]?.getD []))) := by obtain ⟨⟨m, rfl⟩, _⟩ := hw.out; exact hc1 k hlt
      have e2 : wr.cell? ⟨b2, o2 + k, none⟩ = some (.string (St (ys[k]?.getD []))) := by obtain ⟨⟨m, rfl⟩, _⟩ := hw.out; exact hc2 k hlt
      have HF := hide (HE.out k hlt)
      have HS : Hid (xs[k]?.getD [] = ys[k]?.getD [] → ∀ j, j < k + 1 → xs[j]?.getD [] = ys[j]?.getD []) := by
        intro h j hj
        by_cases e : j = k
        · subst e; exact h
        · exact hw.out.2 j (by omega)
      have HW := hide hw.out.1
      have d1 := St_toList (xs[k]?.getD [])
      have d2 := St_toList (ys[k]?.getD [])
      generalize xs[k]?.getD [] = x at *
      generalize ys[k]?.getD [] = y at *
      generalize St x = sx at *
      generalize St y = sy at *
      have hlt' : (k : Int) < (len : Int) := by omega
      clear hc1 hc2 hlt HE HT H1 H2 hw
      by_cases hxy : x = y
      · have d3 : (sx.toList == sy.toList) = true := by rw [d1, d2, hxy]; simp
        have HS' := hide (HS.out hxy)
        clear HS HF hxy d1 d2
        go_wp2
        go_quiet (fail)
        go_wp2
        refine ⟨⟨k + 1, by omega, by go_num, ?_, HS'⟩, by simp [intOf]; omega⟩
        obtain ⟨m, rfl⟩ := HW.out
        exact ⟨_, World.drewN_drewN _ _ _⟩
      · have d3 : (sx.toList == sy.toList) = false := by rw [d1, d2]; simpa using hxy
        have HQ := hide (HF.out hxy)
        clear HS HF hxy d1 d2
        go_wp2
        go_quiet (fail)
        go_wp2
        go_ret
        refine ⟨ret_bool HQ.out.symm, ?_⟩
        obtain ⟨m, rfl⟩ := HW.out
        exact ⟨_, World.drewN_drewN _ _ _⟩
    · obtain rfl : k = len := by omega
      go_wp2
      go_ret
      exact ⟨ret_bool (HT.out hw.out.2).symm, hw.out.1⟩

end Go.Proofs.YtknmgefpjdfenaaGreat
