/- Plain facts on bytes as numbers. -/
import Derived.Test.YtknmgefpjdfenaaGreatTnGBase
namespace Go.Proofs.YtknmgefpjdfenaaGreat
open Go.RowKit Go.Shelf
set_option linter.unusedVariables false

/-- The number that bytes are, the first one the least. -/
def num : List Int → Int
  | [] => 0
  | c :: r => c + 256 * num r

/-- The k bytes of a number, the least first. -/
def digits : Nat → Int → List Int
  | 0, _ => []
  | k + 1, v => v % 256 :: digits k (v / 256)

/-- Bytes met from the last to the first. -/
def horn (l : List Int) : Int := l.foldl (fun v c => v * 256 + c) 0

theorem horn_snoc (l : List Int) (c : Int) : horn (l ++ [c]) = horn l * 256 + c := by simp [horn]

theorem horn_reverse (l : List Int) : horn l.reverse = num l := by
  induction l with
  | nil => rfl
  | cons c r ih => rw [List.reverse_cons, horn_snoc, ih, num]; omega

theorem num_digits (k : Nat) : ∀ v : Int, 0 ≤ v → v < 256 ^ k → num (digits k v) = v := by
  induction k with
  | zero => intro v h1 h2; simp [digits, num] at *; omega
  | succ k ih =>
    intro v h1 h2
    have : v / 256 < 256 ^ k := by rw [Int.pow_succ] at h2; omega
    rw [digits, num, ih _ (by omega) this]; omega

theorem length_digits (k : Nat) : ∀ v, (digits k v).length = k := by
  induction k with
  | zero => intro v; rfl
  | succ k ih => intro v; simp [digits, ih]

theorem digits_byte (k : Nat) : ∀ v, ∀ z ∈ digits k v, 0 ≤ z ∧ z ≤ 255 := by
  induction k with
  | zero => intro v z h; simp [digits] at h
  | succ k ih =>
    intro v z h
    rcases List.mem_cons.1 h with rfl | h
    · omega
    · exact ih _ _ h

theorem num_bound (l : List Int) (h : ∀ z ∈ l, 0 ≤ z ∧ z ≤ 255) : 0 ≤ num l ∧ num l < 256 ^ l.length := by
  induction l with
  | nil => simp [num]
  | cons c r ih =>
    have h1 := ih (fun z hz => h z (by simp [hz]))
    have h2 := h c (by simp)
    simp only [num, List.length_cons, Int.pow_succ]
    omega

theorem horn_bound (l : List Int) (h : ∀ z ∈ l, 0 ≤ z ∧ z ≤ 255) : 0 ≤ horn l ∧ horn l < 256 ^ l.length := by
  have := num_bound l.reverse (by simpa using h)
  rw [← horn_reverse, List.reverse_reverse, List.length_reverse] at this
  exact this

theorem nat_or_byte (x c : Nat) (hc : c < 256) : x * 256 ||| c = x * 256 + c := nat_join 8 (x * 256) c (by omega) (by omega)

theorem or_byte (v c : Int) (h1 : 0 ≤ v) (h2 : v < 16777216) (h3 : 0 ≤ c) (h4 : c ≤ 255) : bits .or .i64 (v * 256) c = v * 256 + c := by
  obtain ⟨x, rfl⟩ := Int.eq_ofNat_of_zero_le h1
  obtain ⟨y, rfl⟩ := Int.eq_ofNat_of_zero_le h3
  have e1 : (BitVec.ofInt 64 ((x : Int) * 256)).toNat = x * 256 := by
    have : ((x : Int) * 256) = ((x * 256 : Nat) : Int) := by omega
    rw [this]; exact ofInt_u64 _ (by omega)
  have e2 : (BitVec.ofInt 64 (y : Int)).toNat = y := ofInt_u64 _ (by omega)
  have e3 : x * 256 ||| y = x * 256 + y := nat_or_byte x y (by omega)
  show IntKind.i64.wrap ((BitVec.ofInt 64 ((x : Int) * 256) ||| BitVec.ofInt 64 (y : Int)).toNat : Int) = _
  rw [BitVec.toNat_or, e1, e2, e3]; simp only [IntKind.wrap, IntKind.bits, IntKind.signed]; simp
  omega

theorem num_drop (l : List Int) (m : Nat) (h : m < l.length) : num (l.drop m) = l[m]?.getD 0 + 256 * num (l.drop (m + 1)) := by
  rw [List.drop_eq_getElem_cons h, num, List.getElem?_eq_getElem h]
  rfl

theorem width_tests {wd : Nat} (hw : wd = 1 ∨ wd = 2 ∨ wd = 4) : ((wd : Int) != 1) = false ∨ (((wd : Int) != 1) = true ∧ ((wd : Int) != 2) = false) ∨ (((wd : Int) != 1) = true ∧ ((wd : Int) != 2) = true ∧ ((wd : Int) != 4) = false) := by
  rcases hw with rfl | rfl | rfl <;> decide

theorem digits_succ (k : Nat) : ∀ v : Int, digits (k + 1) v = digits k v ++ [v / 256 ^ k % 256] := by
  induction k with
  | zero => intro v; simp [digits]
  | succ k ih =>
    intro v
    rw [digits, ih, digits, Int.ediv_ediv_of_nonneg (by omega), Int.pow_succ, Int.mul_comm]
    rfl

theorem put_digits_succ (zs : List Int) (at' k : Nat) (v : Int) (h : at' + k < zs.length) : put zs at' (digits (k + 1) v) = (put zs at' (digits k v)).set (at' + k) (v / 256 ^ k % 256) := by
  have hl := length_digits k v
  have h1 : (zs.take at' ++ digits k v).length = at' + k := by rw [List.length_append, hl]; simp; omega
  have hd : zs.drop (at' + k) = zs[at' + k] :: zs.drop (at' + k + 1) := List.drop_eq_getElem_cons h
  rw [put, put, digits_succ, hl, List.set_append_right _ _ (by omega), h1, Nat.sub_self, hd, List.set_cons_zero]
  simp [hl, Nat.add_assoc]

end Go.Proofs.YtknmgefpjdfenaaGreat
