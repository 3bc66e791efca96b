/- A list of names kept in order: one more is laid in. Nothing of a program. -/
import Derived.Test.YtghhlcacnggjhaaVCmp
namespace Go.Proofs.Ytghhlcacnggjhaa
set_option linter.unusedVariables false
set_option maxRecDepth 100000

def risN (ls : List (List (List UInt8))) : Prop := ls.Pairwise (fun a b => cmN a b < 0)

theorem ins_ord {ls : List (List (List UInt8))} (hs : risN ls) (x : List (List UInt8)) {k k' : Nat} (hk : k ≤ ls.length) (h1 : ∀ j, j < k → cmN (ls[j]?.getD []) x < 0) (h2 : k < ls.length → ¬ cmN (ls[k]?.getD []) x < 0)
    (h3 : (k' = k + 1 ∧ k < ls.length ∧ ¬ cmN x (ls[k]?.getD []) < 0) ∨ (k' = k ∧ (k < ls.length → cmN x (ls[k]?.getD []) < 0))) :
    risN (ls.take k ++ x :: ls.drop k') ∧ (∀ y, y ∈ ls.take k ++ x :: ls.drop k' ↔ y ∈ ls ∨ y = x) ∧ (ls.take k ++ x :: ls.drop k').length ≤ ls.length + 1 := by
  have hlow : ∀ y ∈ ls.take k, cmN y x < 0 := by
    intro y hy
    obtain ⟨j, hj, rfl⟩ := List.getElem_of_mem hy
    have hj' : j < k := by simp at hj; omega
    have := h1 j hj'
    rw [List.getElem?_eq_getElem (by omega)] at this
    rw [List.getElem_take]
    exact this
  have heq : k' = k + 1 → k < ls.length ∧ ls[k]? = some x := by
    intro e
    rcases h3 with ⟨_, hl, h4⟩ | ⟨e', _⟩
    · refine ⟨hl, ?_⟩
      have h5 := h2 hl
      have h6 := cmN_neg x (ls[k]?.getD [])
      rw [List.getElem?_eq_getElem hl] at h4 h5 h6 ⊢
      simp only [Option.getD_some] at h4 h5 h6
      rw [cmN_zero (show cmN x ls[k] = 0 by omega)]
    · omega
  have hhigh : ∀ y ∈ ls.drop k', cmN x y < 0 := by
    intro y hy
    obtain ⟨j, hj, rfl⟩ := List.getElem_of_mem hy
    rw [List.getElem_drop]
    simp only [List.length_drop] at hj
    have hp := List.pairwise_iff_getElem.1 hs
    rcases h3 with ⟨e, hl, h4⟩ | ⟨e, h4⟩
    · obtain ⟨_, h5⟩ := heq e
      rw [List.getElem?_eq_getElem hl] at h5
      simp only [Option.some.injEq] at h5
      have := hp k (k' + j) hl (by omega) (by omega)
      rwa [h5] at this
    · have hl : k < ls.length := by omega
      have h5 := h4 hl
      rw [List.getElem?_eq_getElem hl] at h5
      simp only [Option.getD_some] at h5
      by_cases e2 : j = 0
      · subst e2
        simp only [e, Nat.add_zero]
        exact h5
      · exact cmN_trans h5 (hp k (k' + j) hl (by omega) (by omega))
  refine ⟨?_, fun y => ?_, ?_⟩
  · unfold risN
    rw [List.pairwise_append, List.pairwise_cons]
    refine ⟨hs.sublist (List.take_sublist _ _), ⟨hhigh, hs.sublist (List.drop_sublist _ _)⟩, fun a ha b hb => ?_⟩
    rw [List.mem_cons] at hb
    rcases hb with rfl | hb
    · exact hlow a ha
    · exact cmN_trans (hlow a ha) (hhigh b hb)
  · rw [List.mem_append, List.mem_cons]
    constructor
    · rintro (h | h | h)
      · exact .inl (List.mem_of_mem_take h)
      · exact .inr h
      · exact .inl (List.mem_of_mem_drop h)
    · rintro (h | h)
      · rw [← List.take_append_drop k ls, List.mem_append] at h
        rcases h with h | h
        · exact .inl h
        · rcases h3 with ⟨e, hl, _⟩ | ⟨e, _⟩
          · obtain ⟨_, h5⟩ := heq e
            rw [List.drop_eq_getElem_cons hl, List.mem_cons] at h
            rcases h with h | h
            · rw [List.getElem?_eq_getElem hl] at h5
              simp only [Option.some.injEq] at h5
              exact .inr (.inl (h.trans h5))
            · rw [e]; exact .inr (.inr h)
          · rw [e]; exact .inr (.inr h)
      · exact .inr (.inl h)
  · simp only [List.length_append, List.length_cons, List.length_take, List.length_drop]
    rcases h3 with ⟨e, _, _⟩ | ⟨e, _⟩ <;> omega

/-- The reference's list behind the first i texts. -/
def RoI (xs : List (List UInt8)) (i : Nat) (ls : List (List (List UInt8))) : Prop :=
  risN ls ∧ (∀ ns ∈ ls, okN ns = true) ∧ (∀ ns, ns ∈ ls ↔ ∃ p ∈ xs.take i, spl p = some ns) ∧ ls.length ≤ i

theorem RoI.start (xs : List (List UInt8)) : RoI xs 0 [] := ⟨List.Pairwise.nil, fun _ h => (by cases h), fun ns => by simp, Nat.le_refl _⟩

theorem RoI.next {xs : List (List UInt8)} {i : Nat} {ls : List (List (List UInt8))} (h : RoI xs i ls) (hi : i < xs.length) {x : List (List UInt8)} (hx : spl (xs[i]?.getD []) = some x) {k k' : Nat} (hk : k ≤ ls.length) (h1 : ∀ j, j < k → cmN (ls[j]?.getD []) x < 0) (h2 : k < ls.length → ¬ cmN (ls[k]?.getD []) x < 0)
    (h3 : (k' = k + 1 ∧ k < ls.length ∧ ¬ cmN x (ls[k]?.getD []) < 0) ∨ (k' = k ∧ (k < ls.length → cmN x (ls[k]?.getD []) < 0))) : RoI xs (i + 1) (ls.take k ++ x :: ls.drop k') := by
  obtain ⟨r1, r2, r3, r4⟩ := h
  obtain ⟨o1, o2, o3⟩ := ins_ord r1 x hk h1 h2 h3
  refine ⟨o1, fun ns hn => ?_, fun ns => ?_, by omega⟩
  · rcases (o2 ns).1 hn with hn | rfl
    · exact r2 ns hn
    · exact (spl_some hx).1
  · rw [o2, r3, List.take_add_one, List.getElem?_eq_getElem hi]
    rw [List.getElem?_eq_getElem hi] at hx
    simp only [Option.getD_some] at hx
    constructor
    · rintro (⟨p, hp, e⟩ | rfl)
      · exact ⟨p, List.mem_append_left _ hp, e⟩
      · exact ⟨xs[i], List.mem_append_right _ (List.mem_singleton.2 rfl), hx⟩
    · rintro ⟨p, hp, e⟩
      rw [List.mem_append] at hp
      rcases hp with hp | hp
      · exact .inl ⟨p, hp, e⟩
      · simp at hp
        subst hp
        rw [e] at hx
        right
        simpa using hx

theorem RoI.done {xs : List (List UInt8)} {ls : List (List (List UInt8))} (h : RoI xs xs.length ls) (hok : ∀ p ∈ xs, okP p) : IsOrd xs (ls.map jn) := by
  obtain ⟨r1, r2, r3, r4⟩ := h
  rw [List.take_length] at r3
  refine ⟨?_, fun p => ?_, by simpa using r4⟩
  · rw [List.pairwise_map]
    refine List.Pairwise.imp_of_mem ?_ r1
    intro a b ha hb hab
    unfold cmT
    rw [nms_jn ((okN_iff a).1 (r2 a ha)).2.1, nms_jn ((okN_iff b).1 (r2 b hb)).2.1]
    exact hab
  · rw [List.mem_map]
    constructor
    · rintro ⟨ns, hn, rfl⟩
      obtain ⟨p, hp, e⟩ := (r3 ns).1 hn
      rw [← (spl_some e).2.1]
      exact hp
    · intro hp
      have := hok p hp
      unfold okP at this
      cases hs : spl p with
      | none => rw [hs] at this; cases this
      | some ns => exact ⟨ns, (r3 ns).2 ⟨p, hp, hs⟩, (spl_some hs).2.1.symm⟩

end Go.Proofs.Ytghhlcacnggjhaa
