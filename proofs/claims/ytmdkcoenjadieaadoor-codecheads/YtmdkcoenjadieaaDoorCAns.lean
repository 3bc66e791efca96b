/- What program and reference answer alike: superblocks and heads. -/
import Derived.Test.YtmdkcoenjadieaaDoorCRUnQ
import Derived.Test.YtmdkcoenjadieaaDoorCSupB
import Derived.Test.YtmdkcoenjadieaaDoorCHdr2
namespace Go.Proofs.YtmdkcoenjadieaaDoor
open Go.RowKit Go.Shelf
set_option linter.unusedVariables false
set_option maxRecDepth 100000

/-- A writer's answer: these bytes, this error. -/
def WA (f : FuncId) (args : Array Value) (E : Int) (n : Nat) (L : List Int) (u : World) : Prop :=
  Calls Tryd.prog f args u fun e w' => ∃ a c, e = .returned (.tuple #[.slice a n c, .int .i64 E]) ∧ Hid (Has w' a n L) ∧ Below u.heap.size u w'

theorem super_ans (P : Nat → Int) : ∃ E n L, ∀ u, Tab u → WA 9 #[Pv P] E n L u ∧ WA 10 #[Pv P] E n L u := by
  by_cases h : checkE P = 0
  · refine ⟨0, (P 0).toNat, sumB (P 0).toNat (supH P), fun u hT => ⟨?_, ?_⟩⟩
    · refine (super_good P _ u h (sup_size h) hT).mono ?_
      rintro e w' ⟨g, rfl, hg, hB, hb⟩
      exact ⟨_, _, rfl, hB.out.has (cells_len (zs := []) (supH_length _) (by have := size_bd (check_bounds h).1; omega)), hb⟩
    · refine (refSuper_good P _ u h (sup_size h)).mono ?_
      rintro e w' ⟨a, c, rfl, hO, hb⟩
      exact ⟨_, _, rfl, hO.out.has, hb⟩
  · refine ⟨4, 0, [], fun u hT => ⟨?_, ?_⟩⟩
    · refine (super_bad P u h).mono ?_
      rintro e w' ⟨rfl, hb⟩
      exact ⟨_, _, rfl, Has.nil _, hb⟩
    · refine (refSuper_bad P u h).mono ?_
      rintro e w' ⟨rfl, hb⟩
      exact ⟨_, _, rfl, Has.nil _, hb⟩

theorem header_ans (H : Nat → Int) (b : Int) : ∃ E n L, ∀ u, Tab u → WA 11 #[Hv H, .int .i64 b] E n L u ∧ WA 12 #[Hv H, .int .i64 b] E n L u := by
  by_cases h : isSize b
  · obtain ⟨k, rfl⟩ := Int.eq_ofNat_of_zero_le (show 0 ≤ b by have := size_bd h; omega)
    by_cases hf : hdrF H = true
    · refine ⟨0, k, sumB k (hdrH H), fun u hT => ⟨?_, ?_⟩⟩
      · refine (header_good H k u h hf hT).mono ?_
        rintro e w' ⟨g, rfl, hg, hB, hb⟩
        exact ⟨_, _, rfl, hB.out.has (cells_len (zs := []) (hdrH_length _) (by have := size_bd h; omega)), hb⟩
      · refine (refHeader_good H k u h hf).mono ?_
        rintro e w' ⟨a, c, rfl, hO, hb⟩
        exact ⟨_, _, rfl, hO.out.has, hb⟩
    · have hf' : hdrF H = false := by simpa using hf
      refine ⟨3, 0, [], fun u hT => ⟨?_, ?_⟩⟩
      · refine (header_value H k u h hf').mono ?_
        rintro e w' ⟨rfl, hb⟩
        exact ⟨_, _, rfl, Has.nil _, hb⟩
      · refine (refHeader_value H k u h hf').mono ?_
        rintro e w' ⟨rfl, hb⟩
        exact ⟨_, _, rfl, Has.nil _, hb⟩
  · refine ⟨1, 0, [], fun u hT => ⟨?_, ?_⟩⟩
    · refine (header_arg H b u h).mono ?_
      rintro e w' ⟨rfl, hb⟩
      exact ⟨_, _, rfl, Has.nil _, hb⟩
    · refine (refHeader_arg H b u h).mono ?_
      rintro e w' ⟨rfl, hb⟩
      exact ⟨_, _, rfl, Has.nil _, hb⟩

/-- A reader's answer. -/
def RA (f : FuncId) (args : Array Value) (v : Value) (q : Int) (u : World) : Prop :=
  Calls Tryd.prog f args u fun e w' => e = .returned (.tuple #[v, .int .i64 q]) ∧ Below u.heap.size u w'

theorem unheader_ans (a : Option Addr) (len cap : Nat) (zs : List Int) : ∃ H q, ∀ u, Tab u → Row u.heap.size u a len cap zs → RA 15 #[.slice a len cap] (Hv H) q u ∧ RA 16 #[.slice a len cap] (Hv H) q u := by
  by_cases h : isSize (len : Int) ∧ sumB len (hdrH (hdrOf zs)) = zs
  · refine ⟨hdrOf zs, 0, fun u hT hr => ⟨unheader_yes a len cap zs u hr hT h.1 h.2, ?_⟩⟩
    exact refUnheader_cmp a len cap zs u hr h.1 false (by simp [h.2])
  · refine ⟨zeroH, 4, fun u hT hr => ⟨unheader_no a len cap zs u hr hT h, ?_⟩⟩
    by_cases hs : isSize (len : Int)
    · exact refUnheader_cmp a len cap zs u hr hs true (by simp; exact fun e => h ⟨hs, e⟩)
    · exact refUnheader_size a len cap u hr.2.2.1.1 hs

theorem unsuper_ans (a : Option Addr) (len cap : Nat) (zs : List Int) : ∃ P q, ∀ u, Tab u → Row u.heap.size u a len cap zs → RA 13 #[.slice a len cap] (Pv P) q u ∧ RA 14 #[.slice a len cap] (Pv P) q u := by
  by_cases h : checkE (supOf zs) = 0 ∧ sumB (supOf zs 0).toNat (supH (supOf zs)) = zs
  · refine ⟨supOf zs, 0, fun u hT hr => ⟨unsuper_yes a len cap zs u hr hT h.1 h.2, ?_⟩⟩
    have hm : makeE (getVal zs 4 2) (getVal zs 6 2) (getVal zs 8 2) (getVal zs 10 2) = 0 := by
      by_cases hm : makeE (getVal zs 4 2) (getVal zs 6 2) (getVal zs 8 2) (getVal zs 10 2) = 0
      · exact hm
      · have := h.1
        rw [supOf, makeP_zero hm, check_zeroP] at this
        omega
    have hs : isSize (len : Int) := by
      have hl := cells_len (zs := zs) (b := (supOf zs 0).toNat) (supH_length (supOf zs)) (by have := size_bd (check_bounds h.1).1; omega)
      rw [h.2, hr.1] at hl
      have := sup_size h.1
      rw [← hl] at this
      rw [← this]
      exact (check_bounds h.1).1
    exact refUnsuper_cmp a len cap zs u hr hs hm false (by simp [h.2])
  · refine ⟨zeroP, 4, fun u hT hr => ⟨unsuper_no a len cap zs u hr hT h, ?_⟩⟩
    by_cases hs : isSize (len : Int)
    · by_cases hm : makeE (getVal zs 4 2) (getVal zs 6 2) (getVal zs 8 2) (getVal zs 10 2) = 0
      · exact refUnsuper_cmp a len cap zs u hr hs hm true (by simp; exact fun e => h ⟨check_made hm, e⟩)
      · exact refUnsuper_make a len cap zs u hr hs _ rfl (by simpa using hm)
    · exact refUnsuper_size a len cap u hr.2.2.1.1 hs

end Go.Proofs.YtmdkcoenjadieaaDoor
