/- The contracts of the document's inside and Get. -/
import Derived.Test.YtmdkcoenjadieaaDoorWJ9
import Derived.Test.YtmdkcoenjadieaaDoorWJ5
import Derived.Test.YtmdkcoenjadieaaDoorWJ22
namespace Go.Proofs.YtmdkcoenjadieaaDoor
open Go.RowKit Go.Shelf
set_option linter.unusedVariables false


set_option maxHeartbeats 1000000 in
theorem inside_any (a : Option Addr) (len cap : Nat) (at' n : Int) (w : World) (hl : len ≤ 140737488351232) (ha : at' ≤ 9223372036854775807) :
    Calls Tryd.prog 88 #[.slice a len cap, .int .i64 at', .int .i64 n] w fun e w' => e = .returned (.bool (partErr len at' n == 0)) ∧ w = w' := by
  by_cases hA : at' < 0
  · have hp : (partErr len at' n == 0) = false := by rcases partErr_cases len at' n with h | h | h | h <;> simp <;> omega
    have d1 : decide (0 ≤ at') = false := by simp; omega
    rw [hp]
    clear hp
    go_enter Tryd.func88, Tryd.ntmps88
    go_wp2
    go_ret
    exact ⟨rfl, rfl⟩
  have d1 : decide (0 ≤ at') = true := by simp; omega
  by_cases hN : n < 0
  · have hp : (partErr len at' n == 0) = false := by rcases partErr_cases len at' n with h | h | h | h <;> simp <;> omega
    have d2 : decide (0 ≤ n) = false := by simp; omega
    rw [hp]
    clear hp
    go_enter Tryd.func88, Tryd.ntmps88
    go_wp2
    go_ret
    exact ⟨rfl, rfl⟩
  have d2 : decide (0 ≤ n) = true := by simp; omega
  by_cases hL : (len : Int) < at'
  · have hp : (partErr len at' n == 0) = false := by rcases partErr_cases len at' n with h | h | h | h <;> simp <;> omega
    have d3 : decide (at' ≤ (len : Int)) = false := by simp; omega
    rw [hp]
    clear hp
    go_enter Tryd.func88, Tryd.ntmps88
    go_wp2
    go_ret
    exact ⟨rfl, rfl⟩
  have d3 : decide (at' ≤ (len : Int)) = true := by simp; omega
  by_cases hF : (len : Int) - at' < n
  · have hp : (partErr len at' n == 0) = false := by rcases partErr_cases len at' n with h | h | h | h <;> simp <;> omega
    have d4 : decide (n ≤ (len : Int) - at') = false := by simp; omega
    rw [hp]
    clear hp
    go_enter Tryd.func88, Tryd.ntmps88
    go_wp2
    go_ret
    exact ⟨rfl, rfl⟩
  · have hp : (partErr len at' n == 0) = true := by rcases partErr_cases len at' n with h | h | h | h <;> simp <;> omega
    have d4 : decide (n ≤ (len : Int) - at') = true := by simp; omega
    rw [hp]
    clear hp
    go_enter Tryd.func88, Tryd.ntmps88
    go_wp2
    go_ret
    exact ⟨rfl, rfl⟩

set_option maxHeartbeats 1000000 in
theorem refGet_err (a : Option Addr) (len cap : Nat) (at' n : Int) (w : World) (hl : len ≤ 140737488351232) (ha : at' ≤ 9223372036854775807) (he : numErr len at' n ≠ 0) :
    Calls Tryd.prog 76 #[.slice a len cap, .int .i64 at', .int .i64 n] w fun e w' => e = .returned (.tuple #[.int .i64 0, .int .i64 (numErr len at' n)]) ∧ w = w' := by
  rcases numErr_info len at' n with ⟨h1, h2, h4, h⟩ | ⟨hn, h⟩
  · have e1 : (n != 1) = true := by simpa using h1
    have e2 : (n != 2) = true := by simpa using h2
    have e4 : (n != 4) = true := by simpa using h4
    rw [h]
    clear h he
    go_enter Tryd.func76, Tryd.ntmps76
    go_wp2_with fail
    go_ret2
    exact ⟨rfl, rfl⟩
  · have h2 : numErr len at' n = 2 := by rcases numErr_cases len at' n with h' | h' | h' <;> rcases partErr_cases len at' n with g | g | g | g <;> omega
    have hin : ∀ w, Calls Tryd.prog 88 #[.slice a len cap, .int .i64 at', .int .i64 n] w fun e w' => e = .returned (.bool false) ∧ w = w' := by
      intro w
      refine (inside_any _ len cap at' n w hl ha).mono ?_
      rintro e w' ⟨rfl, rfl⟩
      exact ⟨by rw [← h, h2]; rfl, rfl⟩
    rw [h2]
    have HI := hide hin
    clear hin h he h2
    have ht : (n != 1) = false ∨ ((n != 1) = true ∧ (n != 2) = false) ∨ ((n != 1) = true ∧ (n != 2) = true ∧ (n != 4) = false) := by
      rcases hn with rfl | rfl | rfl <;> decide
    clear hn
    rcases ht with e1 | ⟨e1, e2⟩ | ⟨e1, e2, e3⟩
    all_goals
      go_enter Tryd.func76, Tryd.ntmps76
      go_wp2_with (go_at_call 88; refine (unhide HI _).mono ?_; rintro e w' ⟨rfl, rfl⟩)
      go_ret2
      exact ⟨rfl, rfl⟩

set_option maxRecDepth 100000 in
set_option maxHeartbeats 1000000 in
theorem refGet_ok (b off len cap wd at0 : Nat) (zs : List Int) (w : World) (hr : Row w.heap.size w (some ⟨b, off, none⟩) len cap zs) (hw : wd = 1 ∨ wd = 2 ∨ wd = 4) (hat : at0 + wd ≤ len) :
    Calls Tryd.prog 76 #[.slice (some ⟨b, off, none⟩) len cap, .int .i64 (at0 : Int), .int .i64 (wd : Int)] w fun e w' =>
      e = .returned (.tuple #[.int .i64 (num ((zs.drop at0).take wd)), .int .i64 0]) ∧ w = w' := by
  obtain ⟨hlen, hlc, hcm, hby, hcell⟩ := hr
  obtain ⟨b', off', e, hbl, hcs⟩ := hcell (by omega)
  cases e
  obtain ⟨pt, hpt⟩ : ∃ pt, (zs.drop at0).take wd = pt := ⟨_, rfl⟩
  have hpl : pt.length = wd := by rw [← hpt]; simp; omega
  have hpg : ∀ j, j < wd → pt[j]?.getD 0 = zs[at0 + j]?.getD 0 := by
    intro j hj; rw [← hpt, List.getElem?_take_of_lt hj, List.getElem?_drop]
  have hpb : ∀ z ∈ pt, 0 ≤ z ∧ z ≤ 255 := by
    intro z hz; rw [← hpt] at hz; exact hby z (List.mem_of_mem_drop (List.mem_of_mem_take hz))
  have hin : ∀ w, Calls Tryd.prog 88 #[.slice (some ⟨b, off, none⟩) len cap, .int .i64 (at0 : Int), .int .i64 (wd : Int)] w fun e w' => e = .returned (.bool true) ∧ w = w' := by
    intro w
    refine (inside_any _ len cap at0 wd w (by omega) (by omega)).mono ?_
    rintro e w' ⟨rfl, rfl⟩
    exact ⟨by rw [partErr_ok (by omega) (by omega) (by omega)]; rfl, rfl⟩
  have HB := hide hpb
  have HG := hide hpg
  have HC := hide hcs
  have HI := hide hin
  have HN := hide (num_drop pt)
  rw [hpt]
  clear hpt hby hcell hcs hpg hpb hin
  have hn1 : num (pt.drop wd) = 0 := by rw [List.drop_of_length_le (by omega)]; rfl
  have hw4 : wd ≤ 4 := by omega
  have hw1 : 1 ≤ wd := by omega
  have ht := width_tests hw
  clear hw
  rcases ht with e1 | ⟨e1, e2⟩ | ⟨e1, e2, e3⟩
  all_goals
    go_enter Tryd.func76, Tryd.ntmps76
    go_wp2_with (go_at_call 88; refine (unhide HI _).mono ?_; rintro e w' ⟨rfl, rfl⟩)
    go_loop [8, 9] (fun v i => ∃ m : Nat, m ≤ wd ∧ i = .int .i64 ((m : Int) - 1) ∧ v = .int .i64 (num (pt.drop m))) (fun _ i => (intOf i + 1).toNat)
    case atStart => exact ⟨wd, Nat.le_refl _, rfl, by rw [hn1]⟩
    case round =>
      obtain ⟨m, hm, rfl, rfl⟩ := hrel
      by_cases hlt : 0 < m
      · obtain ⟨q, rfl⟩ : ∃ q, m = q + 1 := ⟨m - 1, by omega⟩
        have hb := num_bound (pt.drop (q + 1)) (fun z hz => unhide HB z (List.mem_of_mem_drop hz))
        have hb2 : num (pt.drop (q + 1)) < 16777216 := by
          refine Int.lt_of_lt_of_le hb.2 ?_
          have h3 : (pt.drop (q + 1)).length ≤ 3 := by simp; omega
          have : (256 : Int) ^ (pt.drop (q + 1)).length ≤ 256 ^ 3 := by exact_mod_cast Nat.pow_le_pow_right (by omega) h3
          omega
        have hb1 := hb.1
        have hcq : w.cell? ⟨b, off + (at0 + q), none⟩ = some (.int .u8 (pt[q]?.getD 0)) := by rw [unhide HG q (by omega)]; exact unhide HC _ (by omega)
        have hz := unhide HB (pt[q]?.getD 0) (by rw [List.getElem?_eq_getElem (by omega)]; exact List.getElem_mem _)
        have HS := hide (unhide HN q (by omega))
        have hi : ((q + 1 : Nat) : Int) - 1 = (q : Int) := by omega
        rw [hi]
        clear hb hn1
        go_wp2
        exact ⟨⟨q, by omega, rfl, val_int (by rw [unhide HS]; omega)⟩, by simp [intOf]⟩
      · obtain rfl : m = 0 := by omega
        go_wp2
        go_ret2
        exact ⟨by simp, rfl⟩

/-- **The document's Get.** -/
theorem refGet_any (a : Option Addr) (len cap : Nat) (zs : List Int) (at' n : Int) (w : World) (hr : Row w.heap.size w a len cap zs) (ha : at' ≤ 9223372036854775807) :
    Calls Tryd.prog 76 #[.slice a len cap, .int .i64 at', .int .i64 n] w fun e w' => e = .returned (.tuple #[.int .i64 (getVal zs at' n), .int .i64 (numErr len at' n)]) ∧ w = w' := by
  have hlen := hr.1
  have hcap := hr.2.2.1
  have hlc := hr.2.1
  by_cases h : numErr len at' n = 0
  · rcases numErr_cases len at' n with h' | h' | ⟨_, at0, wd, rfl, rfl, hw, hat⟩
    · omega
    · omega
    · obtain ⟨b, off, rfl, _, _⟩ := hr.2.2.2.2 (by omega)
      refine (refGet_ok b off len cap wd at0 zs w hr hw hat).mono ?_
      rintro e w' ⟨rfl, hb⟩
      exact ⟨ret_two (by unfold getVal; rw [hlen, h, if_pos rfl, Int.toNat_natCast, Int.toNat_natCast]) h.symm, hb⟩
  · refine (refGet_err a len cap at' n w (by omega) ha h).mono ?_
    rintro e w' ⟨rfl, rfl⟩
    exact ⟨ret_two (by unfold getVal; rw [hlen, if_neg h]) rfl, rfl⟩

end Go.Proofs.YtmdkcoenjadieaaDoor
