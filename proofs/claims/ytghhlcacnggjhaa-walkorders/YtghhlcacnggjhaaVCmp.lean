/- The order of texts by their names. Nothing of a program. -/
import Derived.Test.YtghhlcacnggjhaaVMath
import Derived.Lib.Bytealg
import Derived.Lib.SlicesCompact
namespace Go.Proofs.Ytghhlcacnggjhaa
set_option linter.unusedVariables false
set_option maxRecDepth 100000

theorem cb_refl (a : List UInt8) : Lib.compareBytes a a = 0 := by
  induction a with
  | nil => rfl
  | cons x a ih =>
    unfold Lib.compareBytes
    rw [if_neg (UInt8.lt_irrefl x), if_neg (UInt8.lt_irrefl x), ih]

theorem cb_neg (a b : List UInt8) : Lib.compareBytes a b = - Lib.compareBytes b a := by
  induction a generalizing b with
  | nil => cases b <;> rfl
  | cons x a ih =>
    cases b with
    | nil => rfl
    | cons y b =>
      unfold Lib.compareBytes
      by_cases h1 : x < y
      · rw [if_pos h1, if_neg (UInt8.lt_asymm h1), if_pos h1]
      · by_cases h2 : y < x
        · rw [if_neg h1, if_pos h2, if_pos h2]; rfl
        · rw [if_neg h1, if_neg h2, if_neg h2, if_neg h1, ih]

theorem cb_zero {a b : List UInt8} (h : Lib.compareBytes a b = 0) : a = b := by
  induction a generalizing b with
  | nil => cases b with
    | nil => rfl
    | cons y b => simp [Lib.compareBytes] at h
  | cons x a ih =>
    cases b with
    | nil => simp [Lib.compareBytes] at h
    | cons y b =>
      unfold Lib.compareBytes at h
      by_cases h1 : x < y
      · rw [if_pos h1] at h; omega
      · by_cases h2 : y < x
        · rw [if_neg h1, if_pos h2] at h; omega
        · rw [if_neg h1, if_neg h2] at h
          have : x = y := UInt8.le_antisymm (UInt8.not_lt.1 h2) (UInt8.not_lt.1 h1)
          rw [this, ih h]

theorem cb_trans {a b c : List UInt8} (h : Lib.compareBytes a b < 0) (k : Lib.compareBytes b c < 0) : Lib.compareBytes a c < 0 := by
  induction a generalizing b c with
  | nil =>
    cases c with
    | nil => cases b with
      | nil => exact h
      | cons y b => simp [Lib.compareBytes] at k
    | cons z c => simp [Lib.compareBytes]
  | cons x a ih =>
    cases b with
    | nil => simp [Lib.compareBytes] at h
    | cons y b =>
      cases c with
      | nil => simp [Lib.compareBytes] at k
      | cons z c =>
        unfold Lib.compareBytes at h k ⊢
        by_cases h1 : x < y
        · by_cases k1 : y < z
          · rw [if_pos (UInt8.lt_trans h1 k1)]; omega
          · by_cases k2 : z < y
            · rw [if_neg k1, if_pos k2] at k; omega
            · have : y = z := UInt8.le_antisymm (UInt8.not_lt.1 k2) (UInt8.not_lt.1 k1)
              subst this
              rw [if_pos h1]; omega
        · by_cases h2 : y < x
          · rw [if_neg h1, if_pos h2] at h; omega
          · have : x = y := UInt8.le_antisymm (UInt8.not_lt.1 h2) (UInt8.not_lt.1 h1)
            subst this
            rw [if_neg h1, if_neg h1] at h
            by_cases k1 : x < z
            · rw [if_pos k1]; omega
            · by_cases k2 : z < x
              · rw [if_neg k1, if_pos k2] at k; omega
              · rw [if_neg k1, if_neg k2] at k ⊢
                exact ih h k

/-- Names of two paths compared: by the first in which they part. -/
def cmN : List (List UInt8) → List (List UInt8) → Int
  | [], [] => 0
  | [], _ :: _ => -1
  | _ :: _, [] => 1
  | x :: xs, y :: ys => if x = y then cmN xs ys else Lib.compareBytes x y

theorem cmN_refl (a : List (List UInt8)) : cmN a a = 0 := by
  induction a with
  | nil => rfl
  | cons x a ih => unfold cmN; rw [if_pos rfl, ih]

theorem cmN_neg (a b : List (List UInt8)) : cmN a b = - cmN b a := by
  induction a generalizing b with
  | nil => cases b <;> rfl
  | cons x a ih =>
    cases b with
    | nil => rfl
    | cons y b =>
      unfold cmN
      by_cases h : x = y
      · subst h; rw [if_pos rfl, if_pos rfl, ih]
      · rw [if_neg h, if_neg (fun e => h e.symm), cb_neg]

theorem cmN_zero {a b : List (List UInt8)} (h : cmN a b = 0) : a = b := by
  induction a generalizing b with
  | nil => cases b with
    | nil => rfl
    | cons y b => simp [cmN] at h
  | cons x a ih =>
    cases b with
    | nil => simp [cmN] at h
    | cons y b =>
      unfold cmN at h
      by_cases e : x = y
      · rw [if_pos e] at h; rw [e, ih h]
      · rw [if_neg e] at h; exact absurd (cb_zero h) e

theorem cmN_trans {a b c : List (List UInt8)} (h : cmN a b < 0) (k : cmN b c < 0) : cmN a c < 0 := by
  induction a generalizing b c with
  | nil =>
    cases c with
    | nil => cases b with
      | nil => exact h
      | cons y b => simp [cmN] at k
    | cons z c => simp [cmN]
  | cons x a ih =>
    cases b with
    | nil => simp [cmN] at h
    | cons y b =>
      cases c with
      | nil => simp [cmN] at k
      | cons z c =>
        unfold cmN at h k ⊢
        by_cases h1 : x = y
        · subst h1
          rw [if_pos rfl] at h
          by_cases k1 : x = z
          · rw [if_pos k1] at k ⊢; exact ih h k
          · rw [if_neg k1] at k ⊢; exact k
        · rw [if_neg h1] at h
          by_cases k1 : y = z
          · subst k1; rw [if_neg h1]; exact h
          · rw [if_neg k1] at k
            have := cb_trans h k
            by_cases e : x = z
            · subst e; rw [cb_refl] at this; omega
            · rw [if_neg e]; exact this

theorem nm_ne {l : List UInt8} : ∀ x ∈ nm l, x ≠ [] := by
  intro x hx
  have := List.all_takeWhile (l := segs l) (p := fun x => !x.isEmpty)
  rw [List.all_eq_true] at this
  have := this x hx
  intro e; subst e; simp at this

/-- A step of byNames. -/
theorem cmN_step (ra rb : List UInt8) : cmN (nm ra) (nm rb) = if (cutN ra).1 ≠ (cutN rb).1 ∨ (cutN ra).1 = [] then Lib.compareBytes (cutN ra).1 (cutN rb).1 else cmN (nm (cutN ra).2) (nm (cutN rb).2) := by
  rw [nm_step ra, nm_step rb]
  by_cases hx : (cutN ra).1 = []
  · rw [if_pos hx, if_pos (Or.inr hx), hx]
    by_cases hy : (cutN rb).1 = []
    · rw [if_pos hy, hy]; rfl
    · rw [if_neg hy]
      cases h : (cutN rb).1 with
      | nil => exact absurd h hy
      | cons y l => rfl
  · rw [if_neg hx]
    by_cases hy : (cutN rb).1 = []
    · rw [if_pos hy, if_pos (Or.inl (by rw [hy]; exact hx)), hy]
      cases h : (cutN ra).1 with
      | nil => exact absurd h hx
      | cons y l => rfl
    · rw [if_neg hy]
      by_cases e : (cutN ra).1 = (cutN rb).1
      · rw [if_neg (by simp [e, hy]), e]
        show (if _ = _ then _ else _) = _
        rw [if_pos rfl]
      · rw [if_pos (Or.inl e)]
        show (if _ = _ then _ else _) = _
        rw [if_neg e]

/-- Two texts compared by their names. -/
def cmT (a b : List UInt8) : Int := cmN (nms a) (nms b)

/-- A path. -/
def okP (p : List UInt8) : Prop := (spl p).isSome = true

theorem okP_jn {p : List UInt8} (h : okP p) : jn (nms p) = p := by
  unfold okP at h
  cases hs : spl p with
  | none => rw [hs] at h; cases h
  | some ns => obtain ⟨_, h2, h3⟩ := spl_some hs; rw [h3]; exact h2.symm

theorem cmT_eq {a b : List UInt8} (ha : okP a) (hb : okP b) (h : cmT a b = 0) : a = b := by
  have := cmN_zero h
  rw [← okP_jn ha, this, okP_jn hb]

/-- ys are the texts of xs, each once, rising. -/
def IsOrd (xs ys : List (List UInt8)) : Prop := ys.Pairwise (fun a b => cmT a b < 0) ∧ (∀ p, p ∈ ys ↔ p ∈ xs) ∧ ys.length ≤ xs.length

theorem rising_eq {ys zs : List (List UInt8)} (hy : ys.Pairwise (fun a b => cmT a b < 0)) (hz : zs.Pairwise (fun a b => cmT a b < 0)) (h : ∀ p, p ∈ ys ↔ p ∈ zs) : ys = zs := by
  induction ys generalizing zs with
  | nil =>
    cases zs with
    | nil => rfl
    | cons z zs => exact absurd ((h z).2 (by simp)) (by simp)
  | cons y ys ih =>
    cases zs with
    | nil => exact absurd ((h y).1 (by simp)) (by simp)
    | cons z zs =>
      rw [List.pairwise_cons] at hy hz
      have irr : ∀ a : List UInt8, ¬ cmT a a < 0 := fun a => by unfold cmT; rw [cmN_refl]; omega
      have e : y = z := by
        have h1 := (h y).1 (by simp)
        have h2 := (h z).2 (by simp)
        rw [List.mem_cons] at h1 h2
        rcases h1 with h1 | h1
        · exact h1
        · rcases h2 with h2 | h2
          · exact h2.symm
          · exact absurd (cmN_trans (hy.1 z h2) (hz.1 y h1)) (irr y)
      subst e
      rw [ih hy.2 hz.2 (fun p => ?_)]
      have := h p
      rw [List.mem_cons, List.mem_cons] at this
      constructor
      · intro hp
        rcases this.1 (.inr hp) with e | e
        · subst e; exact absurd (hy.1 p hp) (irr p)
        · exact e
      · intro hp
        rcases this.2 (.inr hp) with e | e
        · subst e; exact absurd (hz.1 p hp) (irr p)
        · exact e

theorem IsOrd.unique {xs xs' ys zs : List (List UInt8)} (h : IsOrd xs ys) (k : IsOrd xs' zs) (e : ∀ p, p ∈ xs ↔ p ∈ xs') : ys = zs :=
  rising_eq h.1 k.1 (fun p => by rw [h.2.1, k.2.1]; exact e p)

/-- What Compact leaves of paths in their order. -/
theorem compact_ord {zs : List (List UInt8)} (hok : ∀ p ∈ zs, okP p) (hs : ∀ i j, i < j → j < zs.length → ¬ cmT zs[j]! zs[i]! < 0) : IsOrd zs (Lib.compact zs) := by
  have hget : ∀ i : Nat, zs.toArray[i]! = zs[i]! := fun i => by simp
  unfold Lib.compact Lib.compactUpTo
  refine ⟨?_, fun p => ?_, ?_⟩
  · rw [List.pairwise_map]
    have := (List.pairwise_lt_range (n := zs.length)).filter (Lib.keeps zs.toArray)
    refine List.Pairwise.imp_of_mem ?_ this
    intro i j hi hj hij
    simp only [List.mem_filter, List.mem_range] at hi hj
    rw [hget, hget]
    have hm : ∀ k, k < zs.length → zs[k]! ∈ zs := fun k hk => by rw [getElem!_pos zs k hk]; exact List.getElem_mem _
    have hk := hj.2
    unfold Lib.keeps at hk
    simp only [decide_eq_true_eq] at hk
    rcases hk with hk | hk
    · omega
    · rw [hget, hget] at hk
      have h1 : cmT zs[j - 1]! zs[j]! < 0 := by
        have a1 := hs (j - 1) j (by omega) hj.1
        have a2 : cmT zs[j]! zs[j - 1]! = - cmT zs[j - 1]! zs[j]! := cmN_neg _ _
        have a3 : cmT zs[j]! zs[j - 1]! ≠ 0 := fun e => hk (cmT_eq (hok _ (hm j hj.1)) (hok _ (hm (j - 1) (by omega))) e)
        omega
      by_cases e : i = j - 1
      · rw [e]; exact h1
      · have a1 := hs i (j - 1) (by omega) (by omega)
        have a2 : cmT zs[j - 1]! zs[i]! = - cmT zs[i]! zs[j - 1]! := cmN_neg _ _
        by_cases a3 : cmT zs[i]! zs[j - 1]! = 0
        · rw [cmT_eq (hok _ (hm i (by omega))) (hok _ (hm (j - 1) (by omega))) a3]; exact h1
        · exact cmN_trans (show cmT zs[i]! zs[j - 1]! < 0 by omega) h1
  · constructor
    · intro hp
      obtain ⟨i, hi, rfl⟩ := List.mem_map.1 hp
      simp only [List.mem_filter, List.mem_range] at hi
      rw [hget, getElem!_pos zs i hi.1]
      exact List.getElem_mem _
    · intro hp
      obtain ⟨i, hi, rfl⟩ := List.getElem_of_mem hp
      have : ∀ i, (hi : i < zs.length) → zs[i] ∈ ((List.range zs.length).filter (Lib.keeps zs.toArray)).map (zs.toArray[·]!) := by
        intro i
        induction i with
        | zero =>
          intro hi
          refine List.mem_map.2 ⟨0, ?_, ?_⟩
          · simp only [List.mem_filter, List.mem_range]
            exact ⟨hi, by simp [Lib.keeps]⟩
          · rw [hget, getElem!_pos zs 0 hi]
        | succ i ih =>
          intro hi
          by_cases e : zs[i + 1] = zs[i]
          · rw [e]; exact ih (by omega)
          · refine List.mem_map.2 ⟨i + 1, ?_, ?_⟩
            · simp only [List.mem_filter, List.mem_range]
              refine ⟨hi, ?_⟩
              unfold Lib.keeps
              simp only [decide_eq_true_eq]
              right
              rw [hget, hget, getElem!_pos zs (i + 1) hi, Nat.add_sub_cancel, getElem!_pos zs i (by omega)]
              exact e
            · rw [hget, getElem!_pos zs (i + 1) hi]
      exact this i hi
  · rw [List.length_map]
    refine Nat.le_trans (List.length_filter_le _ _) ?_
    simp

end Go.Proofs.Ytghhlcacnggjhaa
