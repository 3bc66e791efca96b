/- Plain facts on lists of bytes as numbers, little end first. -/
import Derived.Laws.BitsAllLaws
namespace Go.Proofs.Ytmdnkkmlgjpdcaa

/-- The number that bytes are, the first one the least. -/
def num : List Int → Int
  | [] => 0
  | c :: r => c + 256 * num r

/-- The k bytes of a number, the least first. -/
def digits : Nat → Int → List Int
  | 0, _ => []
  | k + 1, v => v % 256 :: digits k (v / 256)

/-- Bytes met from the last to the first. -/
def horn (l : List Int) : Int := l.foldl (fun v c => v * 256 + c) 0

theorem horn_snoc (l : List Int) (c : Int) : horn (l ++ [c]) = horn l * 256 + c := by simp [horn]

theorem horn_reverse (l : List Int) : horn l.reverse = num l := by
  induction l with
  | nil => rfl
  | cons c r ih => rw [List.reverse_cons, horn_snoc, ih, num]; omega

theorem num_digits (k : Nat) : ∀ v : Int, 0 ≤ v → v < 256 ^ k → num (digits k v) = v := by
  induction k with
  | zero => intro v h1 h2; simp [digits, num] at *; omega
  | succ k ih =>
    intro v h1 h2
    have : v / 256 < 256 ^ k := by rw [Int.pow_succ] at h2; omega
    rw [digits, num, ih _ (by omega) this]; omega

theorem length_digits (k : Nat) : ∀ v, (digits k v).length = k := by
  induction k with
  | zero => intro v; rfl
  | succ k ih => intro v; simp [digits, ih]

theorem digits_byte (k : Nat) : ∀ v, ∀ z ∈ digits k v, 0 ≤ z ∧ z ≤ 255 := by
  induction k with
  | zero => intro v z h; simp [digits] at h
  | succ k ih =>
    intro v z h
    rcases List.mem_cons.1 h with rfl | h
    · omega
    · exact ih _ _ h

theorem num_bound (l : List Int) (h : ∀ z ∈ l, 0 ≤ z ∧ z ≤ 255) : 0 ≤ num l ∧ num l < 256 ^ l.length := by
  induction l with
  | nil => simp [num]
  | cons c r ih =>
    have h1 := ih (fun z hz => h z (by simp [hz]))
    have h2 := h c (by simp)
    simp only [num, List.length_cons, Int.pow_succ]
    omega

theorem horn_bound (l : List Int) (h : ∀ z ∈ l, 0 ≤ z ∧ z ≤ 255) : 0 ≤ horn l ∧ horn l < 256 ^ l.length := by
  have := num_bound l.reverse (by simpa using h)
  rw [← horn_reverse, List.reverse_reverse, List.length_reverse] at this
  exact this

/-- Bytes like zs, but that ds stand from at on. -/
def put (zs : List Int) (at' : Nat) (ds : List Int) : List Int := zs.take at' ++ ds ++ zs.drop (at' + ds.length)

theorem length_put (zs : List Int) (at' : Nat) (ds : List Int) (h : at' + ds.length ≤ zs.length) : (put zs at' ds).length = zs.length := by
  simp [put]; omega

theorem part_put (zs : List Int) (at' : Nat) (ds : List Int) (h : at' + ds.length ≤ zs.length) : ((put zs at' ds).drop at').take ds.length = ds := by
  have h1 : (zs.take at').length = at' := by simp; omega
  rw [put, List.append_assoc, List.drop_append_of_le_length (by omega), List.drop_of_length_le (by omega)]
  simp

theorem put_other (zs : List Int) (at' : Nat) (ds : List Int) (i : Nat) (h : at' + ds.length ≤ zs.length) (hi : i < at' ∨ at' + ds.length ≤ i) : (put zs at' ds)[i]? = zs[i]? := by
  have h1 : (zs.take at').length = at' := by simp; omega
  rw [put]
  rcases hi with hi | hi
  · rw [List.append_assoc, List.getElem?_append_left (by omega), List.getElem?_take_of_lt hi]
  · rw [List.getElem?_append_right (by simp; omega), List.getElem?_drop]
    congr 1
    simp; omega

theorem put_byte (zs : List Int) (at' : Nat) (ds : List Int) (h1 : ∀ z ∈ zs, 0 ≤ z ∧ z ≤ 255) (h2 : ∀ z ∈ ds, 0 ≤ z ∧ z ≤ 255) : ∀ z ∈ put zs at' ds, 0 ≤ z ∧ z ≤ 255 := by
  intro z hz
  simp only [put, List.mem_append] at hz
  rcases hz with (hz | hz) | hz
  · exact h1 z (List.mem_of_mem_take hz)
  · exact h2 z hz
  · exact h1 z (List.mem_of_mem_drop hz)

theorem nat_or_byte (x c : Nat) (hc : c < 256) : x * 256 ||| c = x * 256 + c := nat_join 8 (x * 256) c (by omega) (by omega)

theorem or_byte (v c : Int) (h1 : 0 ≤ v) (h2 : v < 16777216) (h3 : 0 ≤ c) (h4 : c ≤ 255) : bits .or .i64 (v * 256) c = v * 256 + c := by
  obtain ⟨x, rfl⟩ := Int.eq_ofNat_of_zero_le h1
  obtain ⟨y, rfl⟩ := Int.eq_ofNat_of_zero_le h3
  have e1 : (BitVec.ofInt 64 ((x : Int) * 256)).toNat = x * 256 := by
    have : ((x : Int) * 256) = ((x * 256 : Nat) : Int) := by omega
    rw [this]; exact ofInt_u64 _ (by omega)
  have e2 : (BitVec.ofInt 64 (y : Int)).toNat = y := ofInt_u64 _ (by omega)
  have e3 : x * 256 ||| y = x * 256 + y := nat_or_byte x y (by omega)
  show IntKind.i64.wrap ((BitVec.ofInt 64 ((x : Int) * 256) ||| BitVec.ofInt 64 (y : Int)).toNat : Int) = _
  rw [BitVec.toNat_or, e1, e2, e3]; simp only [IntKind.wrap, IntKind.bits, IntKind.signed]; simp
  omega

end Go.Proofs.Ytmdnkkmlgjpdcaa
