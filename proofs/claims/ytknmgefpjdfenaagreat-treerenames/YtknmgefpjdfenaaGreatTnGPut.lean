/- The contract of field.Put where it answers OK. -/
import Derived.Test.YtknmgefpjdfenaaGreatTnGBack
import Derived.Test.YtknmgefpjdfenaaGreatTnGCheck
import Derived.Test.YtknmgefpjdfenaaGreatTnGNum
import Derived.Test.YtknmgefpjdfenaaGreatTnGRenew
namespace Go.Proofs.YtknmgefpjdfenaaGreat
open Go.RowKit Go.Shelf
set_option linter.unusedVariables false
attribute [local go_sem] Oper.semAt_some

/-- Bytes set one by one, by their places. -/
def putAll (zs : List Int) (at' : Nat) (v : Int) (js : List Nat) : List Int := js.foldl (fun l j => l.set (at' + j) (v / 256 ^ j % 256)) zs

theorem putAll_snoc (zs : List Int) (at' : Nat) (v : Int) (js : List Nat) (j : Nat) : putAll zs at' v (js ++ [j]) = (putAll zs at' v js).set (at' + j) (v / 256 ^ j % 256) := by simp [putAll]

theorem length_putAll (zs : List Int) (at' : Nat) (v : Int) (js : List Nat) : (putAll zs at' v js).length = zs.length := by
  unfold putAll
  induction js generalizing zs with
  | nil => rfl
  | cons j r ih => rw [List.foldl_cons, ih]; simp

theorem putAll_byte (zs : List Int) (at' : Nat) (v : Int) (js : List Nat) (h : ∀ z ∈ zs, 0 ≤ z ∧ z ≤ 255) : ∀ z ∈ putAll zs at' v js, 0 ≤ z ∧ z ≤ 255 := by
  unfold putAll
  induction js generalizing zs with
  | nil => exact h
  | cons j r ih =>
    rw [List.foldl_cons]
    refine ih _ (fun z hz => ?_)
    rcases List.mem_or_eq_of_mem_set hz with hz | rfl
    · exact h z hz
    · omega

theorem getElem?_putAll (zs : List Int) (at' : Nat) (v : Int) (js : List Nat) (hj : ∀ j ∈ js, at' + j < zs.length) (i : Nat) :
    (putAll zs at' v js)[i]? = if at' ≤ i ∧ i - at' ∈ js then some (v / 256 ^ (i - at') % 256) else zs[i]? := by
  unfold putAll
  induction js generalizing zs with
  | nil => simp
  | cons j r ih =>
    rw [List.foldl_cons, ih _ (fun k hk => by rw [List.length_set]; exact hj k (by simp [hk]))]
    have h0 := hj j (by simp)
    by_cases h1 : at' ≤ i ∧ i - at' ∈ r
    · rw [if_pos h1, if_pos ⟨h1.1, by simp [h1.2]⟩]
    · rw [if_neg h1, List.getElem?_set]
      by_cases h2 : at' + j = i
      · subst h2
        rw [if_pos rfl, if_pos h0, if_pos ⟨by omega, by simp⟩]
        simp
      · rw [if_neg h2]
        rw [if_neg]
        rintro ⟨h3, h4⟩
        rcases List.mem_cons.1 h4 with h4 | h4
        · omega
        · exact h1 ⟨h3, h4⟩

theorem getElem?_digits (k : Nat) : ∀ (v : Int) (j : Nat), j < k → (digits k v)[j]? = some (v / 256 ^ j % 256) := by
  induction k with
  | zero => intro v j h; omega
  | succ k ih =>
    intro v j h
    cases j with
    | zero => simp [digits]
    | succ j =>
      rw [digits, List.getElem?_cons_succ, ih _ _ (by omega), Int.ediv_ediv_of_nonneg (by omega), Int.pow_succ, Int.mul_comm]

theorem putAll_desc (zs : List Int) (at' wd : Nat) (v : Int) (h : at' + wd ≤ zs.length) : putAll zs at' v (desc wd wd) = put zs at' (digits wd v) := by
  have hm : ∀ j, j ∈ desc wd wd ↔ j < wd := by
    intro j
    simp only [desc, List.mem_map, List.mem_range]
    constructor
    · rintro ⟨k, hk, rfl⟩; omega
    · intro hj; exact ⟨wd - 1 - j, by omega, by omega⟩
  apply List.ext_getElem?
  intro i
  rw [getElem?_putAll _ _ _ _ (fun j hj => by have := (hm j).1 hj; omega)]
  by_cases h1 : at' ≤ i ∧ i - at' ∈ desc wd wd
  · rw [if_pos h1]
    have h2 := (hm _).1 h1.2
    have h3 : (zs.take at').length = at' := by simp; omega
    rw [put, List.append_assoc, List.getElem?_append_right (by omega), h3, List.getElem?_append_left (by rw [length_digits]; omega), getElem?_digits _ _ _ h2]
  · rw [if_neg h1, put_other _ _ _ _ (by rw [length_digits]; omega)]
    rw [length_digits]
    by_cases h2 : i < at'
    · exact .inl h2
    · refine .inr ?_
      by_cases h3 : at' + wd ≤ i
      · exact h3
      · exact absurd ⟨by omega, (hm _).2 (by omega)⟩ h1

theorem shift8 (v : Int) (i : Nat) (hi : i ≤ 3) : Op.shift BinOp.shr .i64 v .i64 (IntKind.i64.wrap (8 * (i : Int))) = pure (.int .i64 (v / 256 ^ i)) := by
  have e : IntKind.i64.wrap (8 * (i : Int)) = 8 * (i : Int) := by rw [IntKind.wrap_i64]; omega
  rw [e, shift_shr _ _ _ _ (by omega) (by simp [IntKind.bits]; omega)]
  have e2 : (8 * (i : Int)).toNat = 8 * i := by omega
  rw [e2, Int.pow_mul]
  rfl

end Go.Proofs.YtknmgefpjdfenaaGreat
