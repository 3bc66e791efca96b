/- The contract of full, and of wakes. -/
import Derived.Test.YtikpmchjlpobdaaDNew
import Derived.Test.YtikpmchjlpobdaaGSame
namespace Go.Proofs.Ytikpmchjlpobdaa
open Go.RowKit Go.Shelf
set_option linter.unusedVariables false

/-- A block of one byte. -/
def fl (x : Int) : List Int := List.replicate 64 x

theorem fl_len (x : Int) : (fl x).length = 64 := by simp [fl]

theorem fl_byt {x : Int} (h0 : 0 ≤ x) (h1 : x ≤ 255) : ∀ z ∈ fl x, 0 ≤ z ∧ z ≤ 255 := fun z hz => by
  have := List.eq_of_mem_replicate hz
  omega

theorem fl_set (x : Int) (k : Nat) (hk : k < 64) : (List.replicate k x ++ List.replicate (64 - k) 0).set k x = List.replicate (k + 1) x ++ List.replicate (64 - (k + 1)) 0 := by
  rw [List.set_append_right _ _ (by simp), List.length_replicate, Nat.sub_self, show 64 - k = (64 - (k + 1)) + 1 by omega, List.replicate_succ, List.set_cons_zero, List.replicate_succ', List.append_assoc]
  rfl

theorem full_any (x : Int) (w : World) :
    Calls Try.prog 36 #[.int .i64 64, .int .u8 x] w fun e w' => e = .returned (.slice (some ⟨w.heap.size, 0, none⟩) 64 64) ∧ Block w' w.heap.size (fl x) ∧ Below w.heap.size w w' := by
  have hmk : ∀ w : World, (Instr.makeSlice 31 (.int .i64 64) (.int .i64 64)).run Try.prog w = .ok (.slice (some ⟨w.heap.size, 0, none⟩) 64 64) (w.alloc (.cells (madeCells #[.int .u8 0] 64) 5)) := run_make_row' (P := Try.prog) 31 5 (.int .u8 0) 1 Try.underlying31 info5 rfl .i64 .i64 64 (by omega) (by omega)
  have B0 : Hid (Below w.heap.size w (w.alloc (.cells (madeCells #[.int .u8 0] 64) 5))) := (Below.refl _ w).alloc (Nat.le_refl _) _
  have I0 := hide (show Block (w.alloc (.cells (madeCells #[.int .u8 0] 64) 5)) w.heap.size (List.replicate 0 x ++ List.replicate (64 - 0) 0) by
    unfold Block
    rw [World.alloc_heap_new, ← Array.toArray_toList (xs := madeCells #[.int .u8 0] 64), toList_madeCells_one]
    simp)
  go_enter Try.func36, Try.ntmps36
  go_upto_region 3 with fail
  change Code.wp _ _ _ _ (w.alloc (.cells (madeCells #[.int .u8 0] 64) 5))
  generalize w.alloc (.cells (madeCells #[.int .u8 0] 64) 5) = w1 at *
  clear hmk
  go_loopw [6] (fun i wr => ∃ k : Nat, k ≤ 64 ∧ i = .int .i64 (k : Int) ∧ Hid (Block wr w.heap.size (List.replicate k x ++ List.replicate (64 - k) 0)) ∧ Hid (Below w.heap.size w wr)) (fun i _ => 64 - (intOf i).toNat)
  case atStart => exact ⟨0, Nat.zero_le _, rfl, I0, B0⟩
  case round =>
    obtain ⟨k, hk, rfl, hI, hX⟩ := hrel
    clear I0 B0
    by_cases hlt : k < 64
    · have c1 := (unhide hI).cell (i := k) (by simp; omega)
      have f1 := (unhide hI).free k
      have I2 := (unhide hI).set k x
      rw [fl_set x k hlt] at I2
      replace I2 := hide I2
      have X2 := hide ((unhide hX).setCell (p := ⟨w.heap.size, k, none⟩) (Nat.le_refl _) (.int .u8 x))
      generalize (List.replicate k x ++ List.replicate (64 - k) 0)[k]?.getD 0 = z at *
      clear hI hX
      generalize w.heap.size = g at *
      go_wp2_with fail
      exact ⟨⟨k + 1, by omega, by go_num, I2, X2⟩, by simp [intOf]; omega⟩
    · obtain rfl : k = 64 := by omega
      go_wp2_with fail
      go_ret
      refine ⟨rfl, ?_, unhide hX⟩
      have := unhide hI
      simpa [fl] using this

theorem full_row {x : Int} (h0 : 0 ≤ x) (h1 : x ≤ 255) {w : World} {g : Nat} (h : Block w g (fl x)) : Row w.heap.size w (some ⟨g, 0, none⟩) 64 64 (fl x) := h.row (fl_len x) (by omega) (fl_byt h0 h1)

theorem and_mask (x : Int) (j : Nat) (hj : j ≤ 60) : bits .and .i64 x ((2 ^ j - 1 : Nat) : Int) = x % ((2 ^ j : Nat) : Int) := by
  have h0 : 0 < 2 ^ j := Nat.two_pow_pos j
  have hp : 2 ^ j ≤ 2 ^ 60 := Nat.pow_le_pow_right (by omega) hj
  have hd : (2 ^ j : Nat) ∣ 2 ^ 64 := Nat.pow_dvd_pow 2 (by omega)
  have e1 : (BitVec.ofInt 64 x &&& BitVec.ofInt 64 ((2 ^ j - 1 : Nat) : Int)).toNat = (x % ((2 ^ 64 : Nat) : Int)).toNat % 2 ^ j := by
    rw [BitVec.toNat_and, BitVec.toNat_ofInt, BitVec.toNat_ofInt, ← Nat.and_two_pow_sub_one_eq_mod]
    congr 1
    rw [Int.emod_eq_of_lt (by omega) (by have : (2 ^ j - 1 : Nat) < 2 ^ 64 := by omega
                                         exact Int.ofNat_lt.2 this)]
    exact Int.toNat_natCast _
  have hw : ∀ n : Nat, n < 2 ^ 60 → IntKind.i64.wrap (n : Int) = n := by intro n hn; rw [IntKind.wrap_i64]; omega
  have hlt : (x % ((2 ^ 64 : Nat) : Int)).toNat % 2 ^ j < 2 ^ 60 := Nat.lt_of_lt_of_le (Nat.mod_lt _ h0) hp
  show IntKind.i64.wrap ((BitVec.ofInt 64 x &&& BitVec.ofInt 64 ((2 ^ j - 1 : Nat) : Int)).toNat : Int) = _
  rw [e1, hw _ hlt, Int.natCast_emod, Int.toNat_of_nonneg (Int.emod_nonneg _ (by decide)), Int.emod_emod_of_dvd _ (Int.natCast_dvd_natCast.2 hd)]

theorem and3 (x : Int) : bits .and .i64 x 3 = x % 4 := and_mask x 2 (by omega)

theorem and7 (x : Int) : bits .and .i64 x 7 = x % 8 := and_mask x 3 (by omega)

/-- New(64, 4). -/
theorem new4 (w : World) :
    Calls Try.prog 10 #[.int .i64 64, .int .i64 4] w fun e w' => ∃ g S, e = .returned (.tuple #[.pointer (some ⟨g, 0, none⟩), .int .i64 0]) ∧ Dv w' S g (Dev.new 64 4) ∧ (∀ k, S k → w.heap.size ≤ k) ∧ Below w.heap.size w w' := new_ok 64 4 w (by decide)

/-- Write(i, full(64, x)), i and x numbers, where it is done. -/
theorem write64 (g i k : Nat) (x : Int) (S : Nat → Prop) (D : Dev) (w : World) (hD : Dv w S g D) (hk : D.blk = 64) (hi : i < D.n) (hb : ¬ D.burnt) (hB : Block w k (fl x)) (h0 : 0 ≤ x) (h1 : x ≤ 255) (hS : ¬ S k) (hy : (D.Y i).length < 400) :
    Calls Try.prog 15 #[.pointer (some ⟨g, 0, none⟩), .int .i64 i, .slice (some ⟨k, 0, none⟩) 64 64] w fun e w' => e = .returned (.int .i64 0) ∧ ∃ S', Dv w' S' g (D.burn.add i (fl x)) ∧ Nx S w S' w' := by
  have := write_ok g i (some ⟨k, 0, none⟩) 64 (fl x) S D w hD hi hb (by rw [hk]; exact full_row h0 h1 hB) (fun _ y e => by cases e; exact hS) hy
  rwa [hk] at this

theorem read64 (g i : Nat) (S : Nat → Prop) (D : Dev) (w : World) (hD : Dv w S g D) (hk : D.blk = 64) (hd : D.dead = false) (hi : i < D.n) :
    Calls Try.prog 12 #[.pointer (some ⟨g, 0, none⟩), .int .i64 i] w fun e w' => e = .returned (.tuple #[.slice (some ⟨w.heap.size, 0, none⟩) 64 64, .int .i64 0]) ∧ Block w' w.heap.size (D.rd i) ∧ Below w.heap.size w w' := by
  have := read_ok g i S D w hD hd hi
  rwa [hk] at this

theorem wakes_any (w : World) :
    Calls Try.prog 9 #[] w fun e w' => e = .returned (.bool true) ∧ Below w.heap.size w w' := by
  have KN := hide (new4 w)
  have KF := hide (fun u => full_any 7 u)
  generalize hB0 : w.heap.size = B at *
  have hB := hide hB0
  clear hB0
  go_enter Try.func9, Try.ntmps9
  go_wp2_with fail
  go_at_call 10
  refine (unhide KN).mono ?_
  rintro e w1 ⟨g, S, rfl, h1, h2, h3⟩
  have HD := hide h1; have HS := hide h2; have HB := hide h3
  clear KN h1 h2 h3
  go_wp2_with fail
  go_at_call 36
  refine (unhide KF _).mono ?_
  rintro e w2 ⟨rfl, h1, h2⟩
  have hs : Hid (¬ S w1.heap.size) := fun hx => Nat.lt_irrefl _ ((unhide HD).lt hx)
  replace HD := hide ((unhide HD).below h2)
  have hs2 := (unhide HB).size
  rw [unhide hB] at hs2
  replace HB := hide ((unhide HB).trans (h2.mono hs2))
  have K := hide (write64 g 1 w1.heap.size 7 S (Dev.new 64 4) w2 (unhide HD) rfl (by decide) (by unfold Dev.burnt Dev.new; decide) h1 (by decide) (by decide) (unhide hs) (by decide))
  clear KF h1 h2 hs hs2
  generalize w1.heap.size = kk at *
  go_wp2_with fail
  go_at_call 15
  refine (unhide K).mono ?_
  rintro e w3 ⟨rfl, S3, h1, h2⟩
  have hs3 : B ≤ w2.heap.size := by have := (unhide HB).size; rw [unhide hB] at this; exact this
  replace HB := hide ((unhide HB).trans (h2.below (unhide HS) hs3))
  replace HS := hide (h2.base (unhide HS) hs3)
  have HD3 := hide h1
  clear HD K h1 h2 hs3
  have hb4 := (Below.refl w3.heap.size w3).alloc (Nat.le_refl _) (.cells #[.int .i64 1] 3)
  have P4 : Hid (IHas (w3.alloc (.cells #[.int .i64 1] 3)) (some ⟨w3.heap.size, 0, none⟩) 1 [1]) := ⟨rfl, fun _ => ⟨_, 0, rfl, fun j hj => by
    obtain rfl : j = 0 := by omega
    exact (World.rowIs_alloc w3 #[.int .i64 1] 3 (fun _ => .int .i64 1) (fun j hj => by simp at hj; subst hj; rfl)).cell (i := 0) (by simp)⟩⟩
  have O4 : Hid (Out S3 1 (some ⟨w3.heap.size, 0, none⟩)) := fun _ y e hx => by cases e; exact Nat.lt_irrefl _ ((unhide HD3).lt hx)
  have K := hide (crash_any g (some ⟨w3.heap.size, 0, none⟩) 1 1 [1] S3 _ (w3.alloc (.cells #[.int .i64 1] 3)) ((unhide HD3).below hb4) (unhide P4) ⟨by omega, by omega⟩ (unhide O4))
  have hs3 : B ≤ w3.heap.size := by have := (unhide HB).size; rw [unhide hB] at this; exact this
  replace HB := hide ((unhide HB).trans (hb4.mono hs3))
  clear P4 O4 HD3 hb4 hs3
  go_wp2_with fail
  go_at_call 21
  refine (unhide K).mono ?_
  rintro e w5 ⟨rfl, h1, h2⟩
  have hs5 : B ≤ (w3.alloc (.cells #[.int .i64 1] 3)).heap.size := by have := (unhide HB).size; rw [unhide hB] at this; exact this
  replace HB := hide ((unhide HB).trans (h2.below (unhide HS) hs5))
  have KR := hide (read64 g 1 S3 _ w5 h1 rfl rfl (by decide))
  clear K h1 h2 hs5
  go_wp2_with fail
  go_at_call 12
  refine (unhide KR).mono ?_
  rintro e w6 ⟨rfl, h1, h2⟩
  have hs6 : B ≤ w5.heap.size := by have := (unhide HB).size; rw [unhide hB] at this; exact this
  replace HB := hide ((unhide HB).trans (h2.mono hs6))
  have c0 := h1.cell (i := 0) (by decide)
  have e7 : (((((Dev.new 64 4).burn.add 1 (fl 7)).crash [1]).rd 1)[0]?.getD 0) = 7 := by decide
  rw [e7] at c0
  clear KR h1 h2 hs6 e7
  go_wp2_with fail
  go_ret
  exact ⟨rfl, unhide HB⟩

end Go.Proofs.Ytikpmchjlpobdaa
