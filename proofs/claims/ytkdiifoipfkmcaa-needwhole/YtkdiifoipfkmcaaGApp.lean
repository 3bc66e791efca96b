/- An append of bytes to a row of the call's own, from whatever source. -/
import Derived.Test.YtkdiifoipfkmcaaGBase
namespace Go.Proofs.Ytkdiifoipfkmcaa
open Go.RowKit Go.Shelf
set_option linter.unusedVariables false

theorem Own.owns {B : Nat} {w : World} {a : Option Addr} {n c : Nat} {xs : List Int} (h : Own B w a n c xs) : w.ownsRow B 5 1 (.slice a n c) n (xs.map (Value.int .u8)) := by
  obtain ⟨h1, h2, h3, h4⟩ := h
  refine ⟨by simp [h1], ?_⟩
  rcases h4 with ⟨rfl, rfl, rfl⟩ | ⟨g, cur, rfl, hg, hh, hc, ht⟩
  · exact .inl ⟨rfl, rfl⟩
  · exact .inr ⟨g, c, cur, rfl, hg, hh, h2, h3, by simpa using hc, by simpa using ht⟩

theorem Own.of_owns {B : Nat} {w : World} {v : Value} {n : Nat} {xs : List Int} (h : w.ownsRow B 5 1 v n (xs.map (Value.int .u8))) : ∃ a c, v = .slice a n c ∧ Own B w a n c xs := by
  obtain ⟨h1, h2⟩ := h
  have hl : xs.length = n := by simpa using h1
  rcases h2 with ⟨rfl, rfl⟩ | ⟨g, cap, cur, rfl, hg, hh, h2, h3, hc, ht⟩
  · exact ⟨none, 0, rfl, hl, Nat.le_refl _, by unfold maxLen; omega, .inl ⟨rfl, rfl, rfl⟩⟩
  · exact ⟨_, cap, rfl, hl, h2, h3, .inr ⟨g, cur, rfl, hg, hh, by simpa using hc, by simpa using ht⟩⟩

theorem Own.has {B : Nat} {w : World} {a : Option Addr} {n c : Nat} {xs : List Int} (h : Own B w a n c xs) : Has w a n xs := by
  refine ⟨h.1, fun hp => ?_⟩
  obtain ⟨g, e, _, _, _⟩ := h.cell (j := 0) hp
  refine ⟨g, 0, e, fun j hj => ?_⟩
  obtain ⟨g', e', _, hc, _⟩ := h.cell hj
  rw [e] at e'
  cases e'
  rw [Nat.zero_add]
  exact hc

theorem Own.byt {B : Nat} {w : World} {a : Option Addr} {n c : Nat} {xs : List Int} (h : Own B w a n c xs) : xs.length = n := h.1

end Go.Proofs.Ytkdiifoipfkmcaa
