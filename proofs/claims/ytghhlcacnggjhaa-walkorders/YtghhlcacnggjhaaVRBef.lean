/- skerryref16.before and skerryref16.Above. -/
import Derived.Test.YtghhlcacnggjhaaVRJoin
import Derived.Test.YtghhlcacnggjhaaVCmp
namespace Go.Proofs.Ytghhlcacnggjhaa
open Go.RowKit Go.Shelf
set_option linter.unusedVariables false
set_option maxRecDepth 100000

theorem cmN_drop {xs ys : List (List UInt8)} {i : Nat} (h : ∀ j, j < i → xs[j]?.getD [] = ys[j]?.getD []) (hx : i ≤ xs.length) (hy : i ≤ ys.length) : cmN xs ys = cmN (xs.drop i) (ys.drop i) := by
  induction i generalizing xs ys with
  | zero => rfl
  | succ i ih =>
    cases xs with
    | nil => simp at hx
    | cons x xs =>
      cases ys with
      | nil => simp at hy
      | cons y ys =>
        have h0 : x = y := by simpa using h 0 (by omega)
        subst h0
        show (if x = x then cmN xs ys else _) = cmN (xs.drop i) (ys.drop i)
        rw [if_pos rfl]
        exact ih (fun j hj => by simpa using h (j + 1) (by omega)) (by simpa using hx) (by simpa using hy)

theorem cmN_at {xs ys : List (List UInt8)} {i : Nat} (h : ∀ j, j < i → xs[j]?.getD [] = ys[j]?.getD []) (hx : i < xs.length) (hy : i < ys.length) (hne : xs[i]?.getD [] ≠ ys[i]?.getD []) : cmN xs ys = Lib.compareBytes (xs[i]?.getD []) (ys[i]?.getD []) := by
  rw [cmN_drop h (by omega) (by omega), List.drop_eq_getElem_cons hx, List.drop_eq_getElem_cons hy]
  rw [List.getElem?_eq_getElem hx, List.getElem?_eq_getElem hy] at hne ⊢
  simp only [Option.getD_some] at hne ⊢
  show (if _ = _ then _ else _) = _
  rw [if_neg hne]

theorem cmN_over {xs ys : List (List UInt8)} {i : Nat} (h : ∀ j, j < i → xs[j]?.getD [] = ys[j]?.getD []) (hx : i ≤ xs.length) (hy : i ≤ ys.length) (he : i = xs.length ∨ i = ys.length) : decide (cmN xs ys < 0) = decide (xs.length < ys.length) := by
  rw [cmN_drop h hx hy]
  have hdx : (xs.drop i).length = xs.length - i := by simp
  have hdy : (ys.drop i).length = ys.length - i := by simp
  cases hX : xs.drop i with
  | nil =>
    rw [hX] at hdx
    cases hY : ys.drop i with
    | nil => rw [hY] at hdy; simp at hdx hdy; simp [cmN]; omega
    | cons y r => rw [hY] at hdy; simp at hdx hdy; simp [cmN]; omega
  | cons x r =>
    rw [hX] at hdx
    cases hY : ys.drop i with
    | nil => rw [hY] at hdy; simp at hdx hdy; simp [cmN]; omega
    | cons y r => rw [hY] at hdy; simp at hdx hdy; omega

theorem cb_less (a b : List UInt8) : decide (Lib.compareBytes a b < 0) = Op.bytesLess a b := by
  induction a generalizing b with
  | nil => cases b with
    | nil => rfl
    | cons y b => rfl
  | cons x a ih =>
    cases b with
    | nil => rfl
    | cons y b =>
      unfold Lib.compareBytes Op.bytesLess
      by_cases h1 : x < y
      · simp [h1]
      · by_cases h2 : y < x
        · have h3 : x ≠ y := fun e => by subst e; exact h1 h2
          simp [h1, h2, h3]
        · have h3 : x = y := UInt8.le_antisymm (UInt8.not_lt.1 h2) (UInt8.not_lt.1 h1)
          subst h3
          rw [if_neg h1, if_neg h1, ih]
          simp

set_option maxHeartbeats 4000000 in
theorem before_any (a1 a2 : Option Addr) (n1 c1 n2 c2 : Nat) (xs ys : List (List UInt8)) (w : World) (h1 : HasS w a1 n1 xs) (h2 : HasS w a2 n2 ys) (hn1 : n1 ≤ 1000) (hn2 : n2 ≤ 1000) :
    Calls Try.prog 31 #[.slice a1 n1 c1, .slice a2 n2 c2] w fun e w' => e = .returned (.bool (decide (cmN xs ys < 0))) ∧ ∃ m, w' = w.drewN m := by
  have HA : Hid (∀ i, i < n1 → i < n2 → (∀ j, j < i → xs[j]?.getD [] = ys[j]?.getD []) → xs[i]?.getD [] ≠ ys[i]?.getD [] → decide (cmN xs ys < 0) = Op.bytesLess (xs[i]?.getD []) (ys[i]?.getD [])) := by
    intro i hi1 hi2 hj hne
    rw [cmN_at hj (by rw [h1.1]; exact hi1) (by rw [h2.1]; exact hi2) hne, cb_less]
  have HO : Hid (∀ i, i ≤ n1 → i ≤ n2 → (i = n1 ∨ i = n2) → (∀ j, j < i → xs[j]?.getD [] = ys[j]?.getD []) → decide (cmN xs ys < 0) = decide (n1 < n2)) := by
    intro i hi1 hi2 he hj
    rw [cmN_over hj (by rw [h1.1]; exact hi1) (by rw [h2.1]; exact hi2) (by rw [h1.1, h2.1]; exact he), h1.1, h2.1]
  generalize decide (cmN xs ys < 0) = q at *
  have H1 := hide h1
  have H2 := hide h2
  clear h1 h2
  go_enter Try.func31, Try.ntmps31
  go_wp2_with fail
  go_loopw [5] (fun iv wr => ∃ i : Nat, i ≤ n1 ∧ i ≤ n2 ∧ iv = .int .i64 (i : Int) ∧ Hid ((∃ m, wr = w.drewN m) ∧ ∀ j, j < i → xs[j]?.getD [] = ys[j]?.getD [])) (fun iv _ => n1 - (intOf iv).toNat)
  case atStart => exact ⟨0, Nat.zero_le _, Nat.zero_le _, rfl, ⟨0, rfl⟩, fun j hj => by omega⟩
  case round =>
    obtain ⟨i, hi1, hi2, rfl, hI⟩ := hrel
    by_cases hlt1 : i < n1
    · have hlt1' : (i : Int) < (n1 : Int) := by omega
      by_cases hlt2 : i < n2
      · have hlt2' : (i : Int) < (n2 : Int) := by omega
        obtain ⟨b1, o1, rfl, _, hc1⟩ := H1.out.2 (by omega)
        obtain ⟨b2, o2, rfl, _, hc2⟩ := H2.out.2 (by omega)
        have e1 : wr.cell? ⟨b1, o1 + i, none⟩ = some (.string (St (xs[i]?.getD []))) := by obtain ⟨⟨m, rfl⟩, _⟩ := hI.out; exact hc1 i hlt1
        have e2 : wr.cell? ⟨b2, o2 + i, none⟩ = some (.string (St (ys[i]?.getD []))) := by obtain ⟨⟨m, rfl⟩, _⟩ := hI.out; exact hc2 i hlt2
        have HW := hide hI.out.1
        have HF := hide (HA.out i hlt1 hlt2 hI.out.2)
        have HS : Hid (xs[i]?.getD [] = ys[i]?.getD [] → ∀ j, j < i + 1 → xs[j]?.getD [] = ys[j]?.getD []) := by
          intro h j hj
          by_cases e : j = i
          · subst e; exact h
          · exact hI.out.2 j (by omega)
        have d1 := St_toList (xs[i]?.getD [])
        have d2 := St_toList (ys[i]?.getD [])
        clear hI hc1 hc2 H1 H2 HA HO
        generalize xs[i]?.getD [] = x at *
        generalize ys[i]?.getD [] = y at *
        by_cases hxy : x = y
        · have d3 : ((St x).toList == (St y).toList) = true := by rw [d1, d2, hxy]; simp
          have HS' := hide (HS.out hxy)
          clear HS HF hxy d1 d2
          generalize St x = sx at *
          generalize St y = sy at *
          go_wp2_with fail
          go_quiet (fail)
          go_wp2_with fail
          go_roundw
          case rel =>
            refine ⟨i + 1, by omega, by omega, by go_num, ?_, HS'.out⟩
            obtain ⟨m, rfl⟩ := HW.out
            exact ⟨_, World.drewN_drewN _ _ _⟩
          case measure => simp [intOf]; omega
        · have d3 : ((St x).toList == (St y).toList) = false := by rw [d1, d2]; simpa using hxy
          have HQ := HF.out hxy
          rw [← d1, ← d2] at HQ
          have HQ := hide HQ
          clear HS HF hxy d1 d2
          generalize St x = sx at *
          generalize St y = sy at *
          go_wp2_with fail
          go_quiet (fail)
          go_wp2_with fail
          go_quiet (fail)
          go_wp2_with fail
          go_ret
          refine ⟨ret_bool HQ.out.symm, ?_⟩
          · obtain ⟨m, rfl⟩ := HW.out
            exact ⟨_, by rw [World.drewN_drewN, World.drewN_drewN]⟩
      · have d2 : decide ((i : Int) < (n2 : Int)) = false := by simp; omega
        have HQ := hide (HO.out i hi1 hi2 (.inr (by omega)) hI.out.2)
        clear H1 H2 HA HO
        go_wp2_with fail
        go_ret
        exact ⟨ret_bool HQ.out.symm, hI.out.1⟩
    · have d1 : decide ((i : Int) < (n1 : Int)) = false := by simp; omega
      have HQ := hide (HO.out i hi1 hi2 (.inl (by omega)) hI.out.2)
      clear H1 H2 HA HO
      go_wp2_with fail
      go_ret
      exact ⟨ret_bool HQ.out.symm, hI.out.1⟩

end Go.Proofs.Ytghhlcacnggjhaa
