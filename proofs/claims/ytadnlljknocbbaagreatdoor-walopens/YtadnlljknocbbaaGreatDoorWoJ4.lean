/- Joined: GNum, GRenew, GSame, RefSum. -/
import Derived.Test.YtadnlljknocbbaaGreatDoorWoJ1
/- Plain facts on bytes as numbers. -/
namespace Go.Proofs.YtadnlljknocbbaaGreatDoor
open Go.RowKit Go.Shelf
set_option linter.unusedVariables false

/-- The number that bytes are, the first one the least. -/
def num : List Int → Int
  | [] => 0
  | c :: r => c + 256 * num r

/-- The k bytes of a number, the least first. -/
def digits : Nat → Int → List Int
  | 0, _ => []
  | k + 1, v => v % 256 :: digits k (v / 256)

/-- Bytes met from the last to the first. -/
def horn (l : List Int) : Int := l.foldl (fun v c => v * 256 + c) 0

theorem horn_snoc (l : List Int) (c : Int) : horn (l ++ [c]) = horn l * 256 + c := by simp [horn]

theorem horn_reverse (l : List Int) : horn l.reverse = num l := by
  induction l with
  | nil => rfl
  | cons c r ih => rw [List.reverse_cons, horn_snoc, ih, num]; omega

theorem num_digits (k : Nat) : ∀ v : Int, 0 ≤ v → v < 256 ^ k → num (digits k v) = v := by
  induction k with
  | zero => intro v h1 h2; simp [digits, num] at *; omega
  | succ k ih =>
    intro v h1 h2
    have : v / 256 < 256 ^ k := by rw [Int.pow_succ] at h2; omega
    rw [digits, num, ih _ (by omega) this]; omega

theorem length_digits (k : Nat) : ∀ v, (digits k v).length = k := by
  induction k with
  | zero => intro v; rfl
  | succ k ih => intro v; simp [digits, ih]

theorem digits_byte (k : Nat) : ∀ v, ∀ z ∈ digits k v, 0 ≤ z ∧ z ≤ 255 := by
  induction k with
  | zero => intro v z h; simp [digits] at h
  | succ k ih =>
    intro v z h
    rcases List.mem_cons.1 h with rfl | h
    · omega
    · exact ih _ _ h

theorem num_bound (l : List Int) (h : ∀ z ∈ l, 0 ≤ z ∧ z ≤ 255) : 0 ≤ num l ∧ num l < 256 ^ l.length := by
  induction l with
  | nil => simp [num]
  | cons c r ih =>
    have h1 := ih (fun z hz => h z (by simp [hz]))
    have h2 := h c (by simp)
    simp only [num, List.length_cons, Int.pow_succ]
    omega

theorem horn_bound (l : List Int) (h : ∀ z ∈ l, 0 ≤ z ∧ z ≤ 255) : 0 ≤ horn l ∧ horn l < 256 ^ l.length := by
  have := num_bound l.reverse (by simpa using h)
  rw [← horn_reverse, List.reverse_reverse, List.length_reverse] at this
  exact this

theorem nat_or_byte (x c : Nat) (hc : c < 256) : x * 256 ||| c = x * 256 + c := nat_join 8 (x * 256) c (by omega) (by omega)

theorem or_byte (v c : Int) (h1 : 0 ≤ v) (h2 : v < 16777216) (h3 : 0 ≤ c) (h4 : c ≤ 255) : bits .or .i64 (v * 256) c = v * 256 + c := by
  obtain ⟨x, rfl⟩ := Int.eq_ofNat_of_zero_le h1
  obtain ⟨y, rfl⟩ := Int.eq_ofNat_of_zero_le h3
  have e1 : (BitVec.ofInt 64 ((x : Int) * 256)).toNat = x * 256 := by
    have : ((x : Int) * 256) = ((x * 256 : Nat) : Int) := by omega
    rw [this]; exact ofInt_u64 _ (by omega)
  have e2 : (BitVec.ofInt 64 (y : Int)).toNat = y := ofInt_u64 _ (by omega)
  have e3 : x * 256 ||| y = x * 256 + y := nat_or_byte x y (by omega)
  show IntKind.i64.wrap ((BitVec.ofInt 64 ((x : Int) * 256) ||| BitVec.ofInt 64 (y : Int)).toNat : Int) = _
  rw [BitVec.toNat_or, e1, e2, e3]; simp only [IntKind.wrap, IntKind.bits, IntKind.signed]; simp
  omega

theorem num_drop (l : List Int) (m : Nat) (h : m < l.length) : num (l.drop m) = l[m]?.getD 0 + 256 * num (l.drop (m + 1)) := by
  rw [List.drop_eq_getElem_cons h, num, List.getElem?_eq_getElem h]
  rfl

theorem width_tests {wd : Nat} (hw : wd = 1 ∨ wd = 2 ∨ wd = 4) : ((wd : Int) != 1) = false ∨ (((wd : Int) != 1) = true ∧ ((wd : Int) != 2) = false) ∨ (((wd : Int) != 1) = true ∧ ((wd : Int) != 2) = true ∧ ((wd : Int) != 4) = false) := by
  rcases hw with rfl | rfl | rfl <;> decide

theorem digits_succ (k : Nat) : ∀ v : Int, digits (k + 1) v = digits k v ++ [v / 256 ^ k % 256] := by
  induction k with
  | zero => intro v; simp [digits]
  | succ k ih =>
    intro v
    rw [digits, ih, digits, Int.ediv_ediv_of_nonneg (by omega), Int.pow_succ, Int.mul_comm]
    rfl

theorem put_digits_succ (zs : List Int) (at' k : Nat) (v : Int) (h : at' + k < zs.length) : put zs at' (digits (k + 1) v) = (put zs at' (digits k v)).set (at' + k) (v / 256 ^ k % 256) := by
  have hl := length_digits k v
  have h1 : (zs.take at' ++ digits k v).length = at' + k := by rw [List.length_append, hl]; simp; omega
  have hd : zs.drop (at' + k) = zs[at' + k] :: zs.drop (at' + k + 1) := List.drop_eq_getElem_cons h
  rw [put, put, digits_succ, hl, List.set_append_right _ _ (by omega), h1, Nat.sub_self, hd, List.set_cons_zero]
  simp [hl, Nat.add_assoc]

end Go.Proofs.YtadnlljknocbbaaGreatDoor

/- The contract of field.renew. -/
namespace Go.Proofs.YtadnlljknocbbaaGreatDoor
open Go.RowKit Go.Shelf
set_option linter.unusedVariables false

set_option maxRecDepth 100000 in
set_option maxHeartbeats 1000000 in
theorem renew_any (a : Option Addr) (len cap : Nat) (zs : List Int) (w : World) (hr : Row w.heap.size w a len cap zs) :
    Calls Tryz.prog 170 #[.slice a len cap] w fun e w' => e = .returned (.slice (some ⟨w.heap.size, 0, none⟩) len len) ∧ Block w' w.heap.size zs ∧ Below w.heap.size w w' := by
  obtain ⟨hlen, hlc, hcm, hby, hcell⟩ := hr
  have hmk := run_make_row' (P := Tryz.prog) 50 5 (.int .u8 0) 1 Tryz.underlying50 info5 rfl .i64 .i64 len (by omega) (by omega)
  have hb0 : Below w.heap.size w (w.alloc (.cells (madeCells #[.int .u8 0] len) 5)) := (Below.refl _ w).alloc (Nat.le_refl _) _
  have hsrc : 0 < len → ∃ ad, a = some ad ∧ ∀ (j : Nat) v, (zs.map (Value.int .u8))[j]? = some v → (w.alloc (.cells (madeCells #[.int .u8 0] len) 5)).cell? (ad.add j) = some v := by
    intro hp
    obtain ⟨b, off, rfl, hb, hc⟩ := hcell hp
    refine ⟨_, rfl, fun j v hv => ?_⟩
    rw [World.add_zero_spot, hb0.cell (p := ⟨b, off + j, none⟩) hb]
    have hj : j < zs.length := by
      have := (List.getElem?_eq_some_iff.1 hv).1
      simpa using this
    rw [hc j (by omega)]
    rw [List.getElem?_map, List.getElem?_eq_getElem hj] at hv
    rw [List.getElem?_eq_getElem hj]
    simpa using hv
  have hg : (w.alloc (.cells (madeCells #[.int .u8 0] len) 5)).heap[w.heap.size]? = some (.cells (List.replicate len (Value.int .u8 0)).toArray 5 (0, 0)) := by
    rw [World.alloc_heap_new, ← toList_madeCells_one, Array.toArray_toList]
  obtain ⟨w2, hcp, hg2, hb2⟩ : ∃ w2, (∀ ty, (Builtin.copy_ #[50, 50] ty #[.slice (some ⟨w.heap.size, 0, none⟩) len len, .slice a len cap]).run Tryz.prog (w.alloc (.cells (madeCells #[.int .u8 0] len) 5)) = .ok (goInt len) w2) ∧ Block w2 w.heap.size zs ∧ Below w.heap.size w w2 := by
    by_cases h0 : len = 0
    · subst h0
      have hz : zs = [] := List.eq_nil_of_length_eq_zero hlen
      subst hz
      exact ⟨_, fun ty => run_copy_none _ 50 50 ty 5 _ _ _ _ _ _ Tryz.underlying50 size5 rfl, hg, hb0⟩
    · obtain ⟨ad, rfl, hs⟩ := hsrc (by omega)
      refine ⟨_, fun ty => ?_, ?_, below_setRow hb0 (Nat.le_refl _) (zs.map (Value.int .u8)).toArray⟩
      · have h := run_copy_row (P := Tryz.prog) (w.alloc (.cells (madeCells #[.int .u8 0] len) 5)) 50 50 ty 5 w.heap.size 0 len len ad len cap _ 5 (zs.map (Value.int .u8)) Tryz.underlying50 size5 hg (by rw [List.length_map, hlen]; exact (Nat.min_self _).symm) hs (by simp [hlen]) (oneCell_bytes zs)
        have e : (List.take 0 (List.replicate len (Value.int .u8 0)).toArray.toList ++ zs.map (Value.int .u8) ++ List.drop (0 + (zs.map (Value.int .u8)).length) (List.replicate len (Value.int .u8 0)).toArray.toList) = zs.map (Value.int .u8) := by
          simp [hlen]
        rw [e, List.length_map, hlen] at h
        exact h
      · exact setRow_heap _ _ _ _ 5 _ hg
  clear hg hsrc hcell
  go_enter Tryz.func170, Tryz.ntmps170
  go_wp2
  go_ret
  exact ⟨rfl, hg2, hb2⟩

theorem renew_at (a : Option Addr) (len cap : Nat) (zs : List Int) (w : World) (n : Nat) (hn : w.heap.size = n) (hr : Row w.heap.size w a len cap zs) :
    Calls Tryz.prog 170 #[.slice a len cap] w fun e w' => e = .returned (.slice (some ⟨n, 0, none⟩) len len) ∧ Hid (Block w' n zs) ∧ Below n w w' := by
  subst hn; exact renew_any a len cap zs w hr

end Go.Proofs.YtadnlljknocbbaaGreatDoor

/- The contract of skerryref01.SameBytes. -/
namespace Go.Proofs.YtadnlljknocbbaaGreatDoor
open Go.RowKit Go.Shelf
set_option linter.unusedVariables false

set_option maxRecDepth 100000 in
set_option maxHeartbeats 400000 in
theorem same_true (a1 a2 : Option Addr) (l c1 c2 : Nat) (zs : List Int) (w : World) (h1 : Has w a1 l zs) (h2 : Has w a2 l zs) :
    Calls Tryz.prog 45 #[.slice a1 l c1, .slice a2 l c2] w fun e w' => e = .returned (.bool true) ∧ w = w' := by
  have e1 := h1.conv c1
  have e2 := h2.conv c2
  clear h1 h2
  go_enter Tryz.func45, Tryz.ntmps45
  go_wp2
  go_ret
  exact ⟨by simp, rfl⟩

end Go.Proofs.YtadnlljknocbbaaGreatDoor

/- The contracts of the document's step, Sum and Add. -/
namespace Go.Proofs.YtadnlljknocbbaaGreatDoor
open Go.RowKit Go.Shelf
set_option linter.unusedVariables false
set_option maxRecDepth 100000

theorem i64_xor_nat (a b : Nat) (ha : a < 9223372036854775808) (hb : b < 9223372036854775808) : bits .xor .i64 (a : Int) (b : Int) = ((a ^^^ b : Nat) : Int) := by
  have hx : a ^^^ b < 2 ^ 63 := Nat.xor_lt_two_pow (by omega) (by omega)
  show IntKind.i64.wrap ((BitVec.ofInt 64 (a : Int) ^^^ BitVec.ofInt 64 (b : Int)).toNat : Int) = _
  rw [BitVec.toNat_xor, ofInt_u64 a (by omega), ofInt_u64 b (by omega), IntKind.wrap_i64]
  omega

/-- Some steps. -/
def sts : Nat → Nat → Nat
  | 0, c => c
  | n + 1, c => st (sts n c)

theorem sts_lt (n : Nat) {c : Nat} (h : c < 4294967296) : sts n c < 4294967296 := by
  induction n with
  | zero => exact h
  | succ n ih => exact st_lt ih

theorem sts_eight (c : Nat) : sts 8 c = st4 (st4 c) := rfl

theorem st_odd {c : Nat} (h : c % 2 = 1) : st c = c / 2 ^^^ 3988292384 := by unfold st; rw [if_pos h]

theorem st_not_odd {c : Nat} (h : ¬ c % 2 = 1) : st c = c / 2 := by unfold st; rw [if_neg h, Nat.xor_zero]

set_option maxHeartbeats 1000000 in
theorem step_any (c x : Nat) (w : World) (hc : c < 4294967296) (hx : x < 256) :
    Calls Tryz.prog 117 #[.int .i64 (c : Int), .int .u8 (x : Int)] w fun e w' => e = .returned (.int .i64 ((upd c x : Nat) : Int)) ∧ w = w' := by
  obtain ⟨X, hXe, hX, h1⟩ : ∃ X : Nat, Hid (X = c ^^^ x) ∧ X < 4294967296 ∧ bits .xor .i64 (c : Int) (x : Int) = (X : Int) := ⟨_, rfl, lt_xor hc (by omega), i64_xor_nat c x (by omega) (by omega)⟩
  have HE : Hid (upd c x = sts 8 X) := by show _ = _; rw [hXe.out, sts_eight]; rfl
  clear hXe
  go_enter Tryz.func117, Tryz.ntmps117
  go_wp2
  go_loop [0, 5] (fun c i => ∃ k : Nat, k ≤ 8 ∧ i = .int .i64 (k : Int) ∧ c = .int .i64 ((sts k X : Nat) : Int)) (fun _ i => 8 - (intOf i).toNat)
  case atStart => exact ⟨0, Nat.zero_le _, rfl, rfl⟩
  case round =>
    obtain ⟨k, hk, rfl, rfl⟩ := hrel
    have hC := sts_lt k hX
    by_cases hlt : k < 8
    · by_cases ho : sts k X % 2 = 1
      · have HS : Hid (sts (k + 1) X = sts k X / 2 ^^^ 3988292384) := st_odd ho
        have ho' : ((sts k X : Nat) : Int) % 2 = 1 := by omega
        have h3 := i64_xor_nat (sts k X / 2) 3988292384 (by omega) (by omega)
        have h3' : bits .xor .i64 (((sts k X : Nat) : Int) / 2) 3988292384 = ((sts k X / 2 ^^^ 3988292384 : Nat) : Int) := by rw [← h3]; congr 1
        generalize sts k X = C at *
        generalize C / 2 ^^^ 3988292384 = D at *
        clear h3 ho
        go_wp2
        exact ⟨⟨k + 1, by omega, by go_num, by rw [HS.out]⟩, by simp [intOf]; omega⟩
      · have HS : Hid (sts (k + 1) X = sts k X / 2) := st_not_odd ho
        have ho' : ((sts k X : Nat) : Int) % 2 = 0 := by omega
        generalize sts k X = C at *
        clear ho
        go_wp2
        exact ⟨⟨k + 1, by omega, by go_num, val_int (by rw [HS.out]; omega)⟩, by simp [intOf]; omega⟩
    · obtain rfl : k = 8 := by omega
      go_wp2
      go_ret
      exact ⟨ret_int (by rw [HE.out]), rfl⟩

set_option maxHeartbeats 1000000 in
theorem refSum_some (b off len cap : Nat) (zs : List Int) (w : World) (hlen : zs.length = len) (hl : len ≤ 140737488355328) (hby : Byts zs)
    (hcs : ∀ j, j < len → w.cell? ⟨b, off + j, none⟩ = some (.int .u8 (zs[j]?.getD 0))) :
    Calls Tryz.prog 91 #[.slice (some ⟨b, off, none⟩) len cap] w fun e w' => e = .returned (.int .i64 ((sumS zs : Nat) : Int)) ∧ w = w' := by
  have HE : Hid (sumS zs = fol 4294967295 zs ^^^ 4294967295) := rfl
  have HB := hide hby
  have HC := hide hcs
  clear hby hcs
  go_enter Tryz.func91, Tryz.ntmps91
  go_wp2
  go_loop [3, 4] (fun c i => ∃ k : Nat, k ≤ len ∧ i = .int .i64 (k : Int) ∧ c = .int .i64 ((fol 4294967295 (zs.take k) : Nat) : Int)) (fun _ i => len - (intOf i).toNat)
  case atStart => exact ⟨0, Nat.zero_le _, rfl, rfl⟩
  case round =>
    obtain ⟨k, hk, rfl, rfl⟩ := hrel
    have hC : fol 4294967295 (zs.take k) < 4294967296 := fol_lt (fun z hz => HB.out z (List.mem_of_mem_take hz)) (by omega)
    by_cases hlt : k < len
    · have hz := HB.out (zs[k]?.getD 0) (by rw [List.getElem?_eq_getElem (by omega)]; exact List.getElem_mem _)
      have HS := hide (fol_succ 4294967295 zs k (by omega))
      have hck := HC.out k hlt
      generalize fol 4294967295 (zs.take k) = C at *
      generalize zs[k]?.getD 0 = xi at *
      obtain ⟨x, rfl⟩ := Int.eq_ofNat_of_zero_le hz.1
      have K := hide (fun w => step_any C x w hC (by omega))
      go_wp2_with (go_at_call 117; refine (unhide K _).mono ?_; rintro e w' ⟨rfl, rfl⟩)
      exact ⟨⟨k + 1, by omega, by go_num, val_int (by rw [HS.out]; rfl)⟩, by simp [intOf]; omega⟩
    · have HX := hide (i64_xor_nat (fol 4294967295 (zs.take k)) 4294967295 (by omega) (by omega))
      obtain rfl : k = len := by omega
      go_wp2
      go_ret
      refine ⟨?_, rfl⟩
      rw [HE.out]
      refine ret_int ?_
      have HX' := HX.out
      have e : zs.take k = zs := List.take_of_length_le (by omega)
      rw [e] at HX' ⊢
      exact HX'

set_option maxHeartbeats 1000000 in
theorem refSum_none (a : Option Addr) (cap : Nat) (w : World) :
    Calls Tryz.prog 91 #[.slice a 0 cap] w fun e w' => e = .returned (.int .i64 ((sumS [] : Nat) : Int)) ∧ w = w' := by
  go_enter Tryz.func91, Tryz.ntmps91
  go_wp2
  go_loop [3, 4] (fun c i => i = .int .i64 0 ∧ c = .int .i64 4294967295) (fun _ i => 0 - (intOf i).toNat)
  case atStart => exact ⟨rfl, rfl⟩
  case round =>
    obtain ⟨rfl, rfl⟩ := hrel
    go_wp2
    go_ret
    exact ⟨ret_int (by decide +kernel), rfl⟩

theorem refSum_any (a : Option Addr) (len cap : Nat) (zs : List Int) (w : World) (hh : Has w a len zs) (hl : len ≤ 140737488355328) (hby : Byts zs) :
    Calls Tryz.prog 91 #[.slice a len cap] w fun e w' => e = .returned (.int .i64 ((sumS zs : Nat) : Int)) ∧ w = w' := by
  by_cases h0 : len = 0
  · subst h0
    obtain rfl : zs = [] := List.eq_nil_of_length_eq_zero hh.1
    exact refSum_none a cap w
  · obtain ⟨b, off, rfl, hc⟩ := hh.2 (by omega)
    exact refSum_some b off len cap zs w hh.1 hl hby hc

end Go.Proofs.YtadnlljknocbbaaGreatDoor

