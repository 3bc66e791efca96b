/- What Unframe makes of frames that are whole, cut short, or have a byte turned: plain mathematics. -/
import Derived.Test.YtleknpgkghkekaaDoorUnframe
namespace Go.Proofs.YtleknpgkghkekaaDoor
open Go.RowKit Go.Shelf
set_option linter.unusedVariables false

theorem num_inj : ∀ (xs ys : List Int), Byts xs → Byts ys → xs.length = ys.length → num xs = num ys → xs = ys := by
  intro xs
  induction xs with
  | nil => intro ys _ _ hl _; cases ys with | nil => rfl | cons y ys => simp at hl
  | cons x xs ih =>
    intro ys hx hy hl h
    cases ys with
    | nil => simp at hl
    | cons y ys =>
      have a1 := hx x (by simp)
      have a2 := hy y (by simp)
      rw [num, num] at h
      have e : x = y := by omega
      have e2 : num xs = num ys := by omega
      rw [e, ih ys (fun z hz => hx z (by simp [hz])) (fun z hz => hy z (by simp [hz])) (by simpa using hl) e2]

theorem frame_take2 (zs r : List Int) : (frameB zs ++ r).take 2 = digits 2 (zs.length : Int) := by
  rw [frameB, headB, List.append_assoc, List.append_assoc, List.take_append_of_le_length (by rw [length_digits]; omega), List.take_of_length_le (by rw [length_digits]; omega)]

theorem num_len (n : Nat) (h : n ≤ 65535) : (num (digits 2 (n : Int))).toNat = n := by
  rw [num_digits 2 n (by omega) (by omega)]
  omega

theorem frame_size (zs r : List Int) (h : zs.length ≤ 65535) : sizeB (frameB zs ++ r) = zs.length := by
  rw [sizeB, frame_take2, num_len _ h]

theorem frame_head (zs r : List Int) : (frameB zs ++ r).take (2 + zs.length) = headB zs := by
  rw [frameB, List.append_assoc, List.take_append_of_le_length (by rw [headB_length]; omega), List.take_of_length_le (by rw [headB_length]; omega)]

theorem frame_sum (zs r : List Int) : ((frameB zs ++ r).drop (2 + zs.length)).take 4 = digits 4 ((sumS (headB zs) : Nat) : Int) := by
  rw [frameB, List.append_assoc, List.drop_append_of_le_length (by rw [headB_length]; omega), List.drop_of_length_le (by rw [headB_length]; omega), List.nil_append, List.take_append_of_le_length (by rw [length_digits]; omega), List.take_of_length_le (by rw [length_digits]; omega)]

theorem sum_digits (zs : List Int) (hb : Byts zs) : num (digits 4 ((sumS (headB zs) : Nat) : Int)) = ((sumS (headB zs) : Nat) : Int) := by
  have := sumS_lt (headB_byts hb)
  exact num_digits 4 _ (by omega) (by omega)

/-- A whole frame. -/
theorem restE_frame (zs r : List Int) (hb : Byts zs) (h : zs.length ≤ 65535) : restE (frameB zs ++ r) = 0 := by
  unfold restE
  rw [frame_size zs r h, frame_head, frame_sum, sum_digits zs hb, if_neg (by rw [List.length_append, frameB_length]; omega), if_neg (by rw [List.length_append, frameB_length]; omega), if_neg (by simp)]

theorem frame_pay (zs r : List Int) : ((frameB zs ++ r).drop 2).take zs.length = zs := by
  rw [frameB, headB, List.append_assoc, List.append_assoc, List.drop_append_of_le_length (by rw [length_digits]; omega), List.drop_of_length_le (by rw [length_digits]; omega), List.nil_append, List.take_append_of_le_length (by omega), List.take_of_length_le (by omega)]

/-- A frame that is cut short. -/
theorem restE_cut (zs : List Int) (h : zs.length ≤ 65535) (i : Nat) (hi : i < zs.length + 6) : restE ((frameB zs).take i) = 21 := by
  unfold restE
  have hl : ((frameB zs).take i).length = i := by rw [List.length_take, frameB_length]; omega
  by_cases h2 : i < 2
  · rw [if_pos (by omega)]
  · have e : sizeB ((frameB zs).take i) = zs.length := by
      have := frame_take2 zs []
      rw [List.append_nil] at this
      rw [sizeB, List.take_take, show min 2 i = 2 by omega, this, num_len _ h]
    rw [if_neg (by omega), e, if_pos (by omega)]

theorem set_take (l : List Int) (i m : Nat) (y : Int) (h : m ≤ i) : (l.set i y).take m = l.take m := by
  apply List.ext_getElem?
  intro k
  by_cases hk : k < m
  · rw [List.getElem?_take_of_lt hk, List.getElem?_take_of_lt hk, List.getElem?_set_ne (by omega)]
  · rw [List.getElem?_eq_none (by simp; omega), List.getElem?_eq_none (by simp; omega)]

/-- A frame with a byte turned behind its length. -/
theorem restE_turned (zs : List Int) (hb : Byts zs) (h : zs.length ≤ 65535) (i : Nat) (h2 : 2 ≤ i) (hi : i < zs.length + 6) (y : Int) (hy : 0 ≤ y ∧ y ≤ 255) (hne : y ≠ (frameB zs)[i]?.getD 0) : restE ((frameB zs).set i y) = 20 := by
  unfold restE
  have hl : ((frameB zs).set i y).length = zs.length + 6 := by rw [List.length_set, frameB_length]
  have t2 := frame_take2 zs []
  have th := frame_head zs []
  have ts := frame_sum zs []
  rw [List.append_nil] at t2 th ts
  have e : sizeB ((frameB zs).set i y) = zs.length := by rw [sizeB, set_take _ _ _ _ h2, t2, num_len _ h]
  rw [if_neg (by omega), e, if_neg (by omega), if_pos]
  have hhl := headB_length zs
  by_cases hp : i < 2 + zs.length
  · have e1 : ((frameB zs).set i y).take (2 + zs.length) = (headB zs).set i y := by rw [List.take_set, th]
    have e2 : (((frameB zs).set i y).drop (2 + zs.length)).take 4 = digits 4 ((sumS (headB zs) : Nat) : Int) := by rw [List.drop_set_of_lt hp, ts]
    rw [e1, e2, sum_digits zs hb]
    have hg : (headB zs)[i]?.getD 0 = (frameB zs)[i]?.getD 0 := by rw [frameB, List.getElem?_append_left (by omega)]
    have := sumS_turned (headB zs) (headB_byts hb) i (by omega) y hy (by rw [hg]; exact hne)
    omega
  · have e1 : ((frameB zs).set i y).take (2 + zs.length) = headB zs := by rw [set_take _ _ _ _ (by omega), th]
    have e2 : (((frameB zs).set i y).drop (2 + zs.length)).take 4 = (digits 4 ((sumS (headB zs) : Nat) : Int)).set (i - (2 + zs.length)) y := by
      rw [List.drop_set, if_neg hp, List.take_set, ts]
    rw [e1, e2]
    intro hc
    have hd := digits_byte 4 ((sumS (headB zs) : Nat) : Int)
    have := num_inj _ _ (fun z hz => ?_) hd (by simp) (hc.trans (sum_digits zs hb).symm)
    · have hg : ((digits 4 ((sumS (headB zs) : Nat) : Int)).set (i - (2 + zs.length)) y)[i - (2 + zs.length)]? = some y := by rw [List.getElem?_set_self (by rw [length_digits]; omega)]
      rw [this] at hg
      apply hne
      rw [frameB, List.getElem?_append_right (by omega), hhl, hg]
      rfl
    · rcases List.mem_or_eq_of_mem_set hz with h | h
      · exact hd z h
      · subst h; exact hy

end Go.Proofs.YtleknpgkghkekaaDoor
