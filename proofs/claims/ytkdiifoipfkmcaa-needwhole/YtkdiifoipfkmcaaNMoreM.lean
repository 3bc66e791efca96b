/- A tree with one file more, in numbers. -/
import Derived.Test.YtkdiifoipfkmcaaNTreeM
namespace Go.Proofs.Ytkdiifoipfkmcaa
open Go.RowKit Go.Shelf Ieee
set_option linter.unusedVariables false

theorem fst_app : ∀ (a b : List Int), fstE (a ++ b) = if fstE a ≠ 0 then fstE a else fstE b
  | [], b => by simp [fstE]
  | x :: a, b => by
    rw [List.cons_append, fstE, fstE, fst_app a b]
    by_cases h : x = 0
    · rw [if_pos h, if_pos h]
    · rw [if_neg h, if_neg h, if_pos h]

theorem sum_nonneg {f : Int → Int} (h : ∀ z, 0 ≤ f z) : ∀ l : List Int, 0 ≤ (l.map f).sum
  | [] => by simp
  | x :: l => by
    have := sum_nonneg h l
    have := h x
    simp
    omega

theorem su_nonneg (P : Nat → Int) (F D : List Int) : 0 ≤ suB P F D ∧ 0 ≤ suI P F D := by
  unfold suB suI
  have a := sum_nonneg (f := flB P) (fun z => (flB_bd (P := P) (n := z)).1) F
  have b := sum_nonneg (f := drB P) (fun z => (drB_bd (P := P) (k := z)).1) D
  have c := sum_nonneg (f := flI P) (fun z => (flB_bd (P := P) (n := z)).2.2.1) F
  have d := sum_nonneg (f := drI P) (fun z => (drB_bd (P := P) (k := z)).2.2.1) D
  omega

theorem su_more (P : Nat → Int) (F D : List Int) (z : Int) : suB P (F ++ [z]) D = suB P F D + flB P z ∧ suI P (F ++ [z]) D = suI P F D + flI P z := by
  unfold suB suI
  rw [List.map_append, List.sum_append, List.map_append, List.sum_append]
  simp
  omega

theorem er_more (P : Nat → Int) (F D : List Int) (z : Int) : (erT P F D = 0 ∧ whE P z = 0 → erT P (F ++ [z]) D = 0) ∧ (erT P F D ≠ 0 ∨ whE P z ≠ 0 → erT P (F ++ [z]) D ≠ 0) := by
  unfold erT
  rw [List.map_append, List.append_assoc, fst_app, fst_app (F.map (whE P)), fst_app ([z].map (whE P))]
  have e : fstE ([z].map (whE P)) = whE P z := by
    simp only [List.map_cons, List.map_nil, fstE]
    split <;> omega
  rw [e]
  by_cases h1 : fstE (F.map (whE P)) ≠ 0
  · rw [if_pos h1, if_pos h1]
    exact ⟨fun h => absurd h.1 h1, fun _ => h1⟩
  · rw [if_neg h1, if_neg h1]
    by_cases h2 : whE P z ≠ 0
    · rw [if_pos h2]
      exact ⟨fun h => absurd h.2 h2, fun _ => h2⟩
    · rw [if_neg h2]
      exact ⟨fun h => h.1, fun h => h.elim id (fun x => absurd x h2)⟩

/-- What a tree with one file more needs. -/
theorem tr_more (P : Nat → Int) (F D : List Int) (z : Int) :
    (trE P F D ≠ 0 ∨ whE P z ≠ 0 → trE P (F ++ [z]) D ≠ 0 ∧ trB P (F ++ [z]) D = 0 ∧ trI P (F ++ [z]) D = 0) ∧
    (trE P F D = 0 → whE P z = 0 → inA (trB P F D) ∧ inA (trI P F D) ∧ trE P (F ++ [z]) D = toE (trB P F D + flB P z) (trI P F D + flI P z) ∧ trB P (F ++ [z]) D = toB (trB P F D + flB P z) (trI P F D + flI P z) ∧ trI P (F ++ [z]) D = toI (trB P F D + flB P z) (trI P F D + flI P z)) := by
  by_cases hc : checkE P = 0
  · obtain ⟨m1, m2⟩ := er_more P F D z
    obtain ⟨s1, s2⟩ := su_more P F D z
    obtain ⟨p1, p2⟩ := su_nonneg P F D
    have hf := flB_bd (P := P) (n := z)
    by_cases he : erT P F D = 0
    · obtain ⟨t1, t2, t3⟩ := tr_sum (F := F) (D := D) hc he
      by_cases hz : whE P z = 0
      · obtain ⟨u1, u2, u3⟩ := tr_sum (F := F ++ [z]) (D := D) hc (m1 ⟨he, hz⟩)
        rw [s1, s2] at u1 u2 u3
        rw [t1, t2, t3, u1, u2, u3]
        by_cases ho : okA (suB P F D) (suI P F D) = true
        · have hb := okA_iff.1 ho
          refine ⟨fun h => ?_, fun _ _ => ?_⟩
          · rcases h with h | h
            · rw [toE, if_pos ho] at h; omega
            · omega
          · have e1 : toB (suB P F D) (suI P F D) = suB P F D := by rw [toB, if_pos ho]
            have e2 : toI (suB P F D) (suI P F D) = suI P F D := by rw [toI, if_pos ho]
            rw [e1, e2]
            exact ⟨⟨p1, hb.1⟩, ⟨p2, hb.2⟩, rfl, rfl, rfl⟩
        · have hn : okA (suB P F D + flB P z) (suI P F D + flI P z) ≠ true := by
            intro h
            have h2 := okA_iff.1 h
            exact ho (okA_iff.2 ⟨by omega, by omega⟩)
          refine ⟨fun _ => ?_, fun h _ => ?_⟩
          · unfold toE toB toI
            rw [if_neg hn, if_neg hn, if_neg hn]
            exact ⟨by omega, rfl, rfl⟩
          · rw [toE, if_neg ho] at h
            omega
      · obtain ⟨u1, u2, u3⟩ := tr_err (F := F ++ [z]) (D := D) hc rfl (m2 (.inr hz))
        rw [u1, u2, u3]
        exact ⟨fun _ => ⟨m2 (.inr hz), rfl, rfl⟩, fun _ h => absurd h hz⟩
    · obtain ⟨t1, t2, t3⟩ := tr_err (F := F) (D := D) hc rfl he
      obtain ⟨u1, u2, u3⟩ := tr_err (F := F ++ [z]) (D := D) hc rfl (m2 (.inl he))
      rw [t1, u1, u2, u3]
      exact ⟨fun _ => ⟨m2 (.inl he), rfl, rfl⟩, fun h => absurd h he⟩
  · obtain ⟨t1, t2, t3⟩ := tr_form (F := F) (D := D) hc
    obtain ⟨u1, u2, u3⟩ := tr_form (F := F ++ [z]) (D := D) hc
    rw [t1, u1, u2, u3]
    exact ⟨fun _ => ⟨by omega, rfl, rfl⟩, fun h => by omega⟩

end Go.Proofs.Ytkdiifoipfkmcaa
