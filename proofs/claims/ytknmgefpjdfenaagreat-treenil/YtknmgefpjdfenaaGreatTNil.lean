/- play of a nil tree, and the walk of TreeNil. -/
import Derived.Test.YtknmgefpjdfenaaGreatTNilC
namespace Go.Proofs.YtknmgefpjdfenaaGreat
open Go.RowKit Go.Shelf Go.Maps
set_option linter.unusedVariables false
set_option maxRecDepth 100000

set_option maxHeartbeats 1000000 in
theorem play_nil1 (w : World) : Calls Tryz.prog 14 #[.pointer none, .agg #[.int .i64 1, .string ⟨#[47, 97]⟩, .string ⟨#[47, 98]⟩, .int .i64 0, .int .i64 0, .int .i64 0, .slice none 0 0]] w fun e w' => e = .returned (.int .i64 1) ∧ Below w.heap.size w w' := by
  have K : Hid (∀ u, Calls Tryz.prog 22 _ u _) := fun u => create_nil ⟨#[47, 97]⟩ u
  have HB := hide (below_one w (.cells #[.int .i64 1, .string ⟨#[47, 97]⟩, .string ⟨#[47, 98]⟩, .int .i64 0, .int .i64 0, .int .i64 0, .slice none 0 0] 36))
  go_enter Tryz.func14, Tryz.ntmps14
  go_wp2_with fail
  refine (unhide K _).mono ?_
  rintro e w1 ⟨rfl, hb⟩
  have HB := hide (HB.out.trans (hb.mono HB.out.size))
  go_wp2_with fail
  go_ret
  exact ⟨rfl, HB.out⟩

set_option maxHeartbeats 1000000 in
theorem play_nil2 (w : World) : Calls Tryz.prog 14 #[.pointer none, .agg #[.int .i64 2, .string ⟨#[47, 97]⟩, .string ⟨#[47, 98]⟩, .int .i64 0, .int .i64 0, .int .i64 0, .slice none 0 0]] w fun e w' => e = .returned (.int .i64 1) ∧ Below w.heap.size w w' := by
  have K : Hid (∀ u, Calls Tryz.prog 21 _ u _) := fun u => mkdir_nil ⟨#[47, 97]⟩ u
  have HB := hide (below_one w (.cells #[.int .i64 2, .string ⟨#[47, 97]⟩, .string ⟨#[47, 98]⟩, .int .i64 0, .int .i64 0, .int .i64 0, .slice none 0 0] 36))
  go_enter Tryz.func14, Tryz.ntmps14
  go_wp2_with fail
  refine (unhide K _).mono ?_
  rintro e w1 ⟨rfl, hb⟩
  have HB := hide (HB.out.trans (hb.mono HB.out.size))
  go_wp2_with fail
  go_ret
  exact ⟨rfl, HB.out⟩

set_option maxHeartbeats 1000000 in
theorem play_nil3 (w : World) : Calls Tryz.prog 14 #[.pointer none, .agg #[.int .i64 3, .string ⟨#[47, 97]⟩, .string ⟨#[47, 98]⟩, .int .i64 0, .int .i64 0, .int .i64 0, .slice none 0 0]] w fun e w' => e = .returned (.int .i64 1) ∧ Below w.heap.size w w' := by
  have K : Hid (∀ u, Calls Tryz.prog 26 _ u _) := fun u => link_nil ⟨#[47, 97]⟩ ⟨#[47, 98]⟩ u
  have HB := hide (below_one w (.cells #[.int .i64 3, .string ⟨#[47, 97]⟩, .string ⟨#[47, 98]⟩, .int .i64 0, .int .i64 0, .int .i64 0, .slice none 0 0] 36))
  go_enter Tryz.func14, Tryz.ntmps14
  go_wp2_with fail
  refine (unhide K _).mono ?_
  rintro e w1 ⟨rfl, hb⟩
  have HB := hide (HB.out.trans (hb.mono HB.out.size))
  go_wp2_with fail
  go_ret
  exact ⟨rfl, HB.out⟩

set_option maxHeartbeats 1000000 in
theorem play_nil4 (w : World) : Calls Tryz.prog 14 #[.pointer none, .agg #[.int .i64 4, .string ⟨#[47, 97]⟩, .string ⟨#[47, 98]⟩, .int .i64 0, .int .i64 0, .int .i64 0, .slice none 0 0]] w fun e w' => e = .returned (.int .i64 1) ∧ Below w.heap.size w w' := by
  have K : Hid (∀ u, Calls Tryz.prog 16 _ u _) := fun u => rename_nil ⟨#[47, 97]⟩ ⟨#[47, 98]⟩ u
  have HB := hide (below_one w (.cells #[.int .i64 4, .string ⟨#[47, 97]⟩, .string ⟨#[47, 98]⟩, .int .i64 0, .int .i64 0, .int .i64 0, .slice none 0 0] 36))
  go_enter Tryz.func14, Tryz.ntmps14
  go_wp2_with fail
  refine (unhide K _).mono ?_
  rintro e w1 ⟨rfl, hb⟩
  have HB := hide (HB.out.trans (hb.mono HB.out.size))
  go_wp2_with fail
  go_ret
  exact ⟨rfl, HB.out⟩

set_option maxHeartbeats 1000000 in
theorem play_nil5 (w : World) : Calls Tryz.prog 14 #[.pointer none, .agg #[.int .i64 5, .string ⟨#[47, 97]⟩, .string ⟨#[47, 98]⟩, .int .i64 0, .int .i64 0, .int .i64 0, .slice none 0 0]] w fun e w' => e = .returned (.int .i64 1) ∧ Below w.heap.size w w' := by
  have K : Hid (∀ u, Calls Tryz.prog 29 _ u _) := fun u => unlink_nil ⟨#[47, 97]⟩ u
  have HB := hide (below_one w (.cells #[.int .i64 5, .string ⟨#[47, 97]⟩, .string ⟨#[47, 98]⟩, .int .i64 0, .int .i64 0, .int .i64 0, .slice none 0 0] 36))
  go_enter Tryz.func14, Tryz.ntmps14
  go_wp2_with fail
  refine (unhide K _).mono ?_
  rintro e w1 ⟨rfl, hb⟩
  have HB := hide (HB.out.trans (hb.mono HB.out.size))
  go_wp2_with fail
  go_ret
  exact ⟨rfl, HB.out⟩

set_option maxHeartbeats 1000000 in
theorem play_nil6 (w : World) : Calls Tryz.prog 14 #[.pointer none, .agg #[.int .i64 6, .string ⟨#[47, 97]⟩, .string ⟨#[47, 98]⟩, .int .i64 0, .int .i64 0, .int .i64 0, .slice none 0 0]] w fun e w' => e = .returned (.int .i64 1) ∧ Below w.heap.size w w' := by
  have K : Hid (∀ u, Calls Tryz.prog 31 _ u _) := fun u => rmdir_nil ⟨#[47, 97]⟩ u
  have HB := hide (below_one w (.cells #[.int .i64 6, .string ⟨#[47, 97]⟩, .string ⟨#[47, 98]⟩, .int .i64 0, .int .i64 0, .int .i64 0, .slice none 0 0] 36))
  go_enter Tryz.func14, Tryz.ntmps14
  go_wp2_with fail
  refine (unhide K _).mono ?_
  rintro e w1 ⟨rfl, hb⟩
  have HB := hide (HB.out.trans (hb.mono HB.out.size))
  go_wp2_with fail
  go_ret
  exact ⟨rfl, HB.out⟩

set_option maxHeartbeats 1000000 in
theorem play_nil9 (w : World) : Calls Tryz.prog 14 #[.pointer none, .agg #[.int .i64 9, .string ⟨#[47, 97]⟩, .string ⟨#[47, 98]⟩, .int .i64 0, .int .i64 0, .int .i64 0, .slice none 0 0]] w fun e w' => e = .returned (.int .i64 1) ∧ Below w.heap.size w w' := by
  have K : Hid (∀ u, Calls Tryz.prog 18 _ u _) := fun u => open_nil ⟨#[47, 97]⟩ u
  have HB := hide (below_one w (.cells #[.int .i64 9, .string ⟨#[47, 97]⟩, .string ⟨#[47, 98]⟩, .int .i64 0, .int .i64 0, .int .i64 0, .slice none 0 0] 36))
  go_enter Tryz.func14, Tryz.ntmps14
  go_wp2_with fail
  refine (unhide K _).mono ?_
  rintro e w1 ⟨rfl, hb⟩
  have HB := hide (HB.out.trans (hb.mono HB.out.size))
  go_wp2_with fail
  go_ret
  exact ⟨rfl, HB.out⟩

set_option maxHeartbeats 1000000 in
theorem play_nil10 (w : World) : Calls Tryz.prog 14 #[.pointer none, .agg #[.int .i64 10, .string ⟨#[47, 97]⟩, .string ⟨#[47, 98]⟩, .int .i64 0, .int .i64 0, .int .i64 0, .slice none 0 0]] w fun e w' => e = .returned (.int .i64 1) ∧ Below w.heap.size w w' := by
  have K : Hid (∀ u, Calls Tryz.prog 37 _ u _) := fun u => close_nil 0 u
  have HB := hide (below_one w (.cells #[.int .i64 10, .string ⟨#[47, 97]⟩, .string ⟨#[47, 98]⟩, .int .i64 0, .int .i64 0, .int .i64 0, .slice none 0 0] 36))
  go_enter Tryz.func14, Tryz.ntmps14
  go_wp2_with fail
  refine (unhide K _).mono ?_
  rintro e w1 ⟨rfl, rfl⟩
  
  go_wp2_with fail
  go_ret
  exact ⟨rfl, HB.out⟩

set_option maxHeartbeats 1000000 in
theorem play_nil12 (w : World) : Calls Tryz.prog 14 #[.pointer none, .agg #[.int .i64 12, .string ⟨#[47, 97]⟩, .string ⟨#[47, 98]⟩, .int .i64 0, .int .i64 0, .int .i64 0, .slice none 0 0]] w fun e w' => e = .returned (.int .i64 1) ∧ Below w.heap.size w w' := by
  have K : Hid (∀ u, Calls Tryz.prog 41 _ u _) := fun u => write_nil 0 0 (.slice none 0 0) u
  have HB := hide (below_one w (.cells #[.int .i64 12, .string ⟨#[47, 97]⟩, .string ⟨#[47, 98]⟩, .int .i64 0, .int .i64 0, .int .i64 0, .slice none 0 0] 36))
  go_enter Tryz.func14, Tryz.ntmps14
  go_wp2_with fail
  refine (unhide K _).mono ?_
  rintro e w1 ⟨rfl, rfl⟩
  
  go_wp2_with fail
  go_ret
  exact ⟨rfl, HB.out⟩

set_option maxHeartbeats 1000000 in
theorem play_nil13 (w : World) : Calls Tryz.prog 14 #[.pointer none, .agg #[.int .i64 13, .string ⟨#[47, 97]⟩, .string ⟨#[47, 98]⟩, .int .i64 0, .int .i64 0, .int .i64 0, .slice none 0 0]] w fun e w' => e = .returned (.int .i64 1) ∧ Below w.heap.size w w' := by
  have K : Hid (∀ u, Calls Tryz.prog 43 _ u _) := fun u => truncate_nil 0 0 u
  have HB := hide (below_one w (.cells #[.int .i64 13, .string ⟨#[47, 97]⟩, .string ⟨#[47, 98]⟩, .int .i64 0, .int .i64 0, .int .i64 0, .slice none 0 0] 36))
  go_enter Tryz.func14, Tryz.ntmps14
  go_wp2_with fail
  refine (unhide K _).mono ?_
  rintro e w1 ⟨rfl, rfl⟩
  
  go_wp2_with fail
  go_ret
  exact ⟨rfl, HB.out⟩

theorem play_nil (k : Nat) (h : k = 1 ∨ k = 2 ∨ k = 3 ∨ k = 4 ∨ k = 5 ∨ k = 6 ∨ k = 9 ∨ k = 10 ∨ k = 12 ∨ k = 13) (w : World) :
    Calls Tryz.prog 14 #[.pointer none, .agg #[.int .i64 (k : Int), .string ⟨#[47, 97]⟩, .string ⟨#[47, 98]⟩, .int .i64 0, .int .i64 0, .int .i64 0, .slice none 0 0]] w fun e w' => e = .returned (.int .i64 1) ∧ Below w.heap.size w w' := by
  rcases h with rfl | rfl | rfl | rfl | rfl | rfl | rfl | rfl | rfl | rfl
  · exact play_nil1 w
  · exact play_nil2 w
  · exact play_nil3 w
  · exact play_nil4 w
  · exact play_nil5 w
  · exact play_nil6 w
  · exact play_nil9 w
  · exact play_nil10 w
  · exact play_nil12 w
  · exact play_nil13 w

set_option maxHeartbeats 8000000 in
theorem nil_walk (w : World) : Calls Tryz.prog 6 #[] w fun e w' => e = .returned (.bool true) ∧ Below w.heap.size w w' := by
  have KW := hide (wakes_any w)
  have K1 : Hid (∀ u, Calls Tryz.prog 15 #[.pointer none, .string ⟨#[47]⟩] u _) := fun u => stat_nil ⟨#[47]⟩ u
  have K2 : Hid (∀ u, Calls Tryz.prog 17 #[.pointer none, .string ⟨#[47]⟩] u _) := fun u => list_nil ⟨#[47]⟩ u
  have K3 : Hid (∀ u, Calls Tryz.prog 18 #[.pointer none, .string ⟨#[47]⟩] u _) := fun u => open_nil ⟨#[47]⟩ u
  have K4 : Hid (∀ u, Calls Tryz.prog 19 #[.pointer none, .int .i64 0, .int .i64 0, .int .i64 1] u _) := fun u => read_nil 0 0 1 u
  have K5 : Hid (∀ u, Calls Tryz.prog 20 _ u _) := fun u => need_nil u
  have K6 : Hid (∀ u, Calls Tryz.prog 8 #[.int .i64 0] u _) := fun u => new_bad (n := 0) (.inl (by decide)) u
  have K7 : Hid (∀ u, Calls Tryz.prog 8 #[.int .i64 524289] u _) := fun u => new_bad (n := 524289) (.inr (by decide)) u
  have K8 : Hid (∀ u, Calls Tryz.prog 12 #[.pointer none] u _) := fun u => dump_nil u
  go_enter Tryz.func6, Tryz.ntmps6
  go_wp2_with fail
  refine (unhide KW).mono ?_
  rintro e w1 ⟨rfl, hb⟩
  have HB := hide hb
  clear KW hb
  go_wp2_with fail
  refine (unhide K1 _).mono ?_
  rintro e w2 ⟨rfl, hb⟩
  have HB := hide ((HB.out.trans (hb.mono HB.out.size)).alloc (Nat.le_trans HB.out.size hb.size) (.cells #[.int .i64 0, .int .i64 0, .int .i64 0, .int .i64 0] 46))
  clear K1 hb
  go_wp2_with fail
  generalize w2.alloc (.cells #[.int .i64 0, .int .i64 0, .int .i64 0, .int .i64 0] 46) = w2 at *
  refine (unhide K2 _).mono ?_
  rintro e w3 ⟨rfl, hb⟩
  have HB := hide (HB.out.trans (hb.mono HB.out.size))
  clear K2 hb
  go_wp2_with fail
  refine (unhide K3 _).mono ?_
  rintro e w4 ⟨rfl, hb⟩
  have HB := hide (HB.out.trans (hb.mono HB.out.size))
  clear K3 hb
  go_wp2_with fail
  refine (unhide K4 _).mono ?_
  rintro e w5 ⟨rfl, rfl⟩
  clear K4
  go_wp2_with fail
  refine (unhide K5 _).mono ?_
  rintro e w6 ⟨rfl, hb⟩
  have HB := hide (HB.out.trans (hb.mono HB.out.size))
  clear K5 hb
  go_wp2_with fail
  refine (unhide K6 _).mono ?_
  rintro e w7 ⟨rfl, rfl⟩
  clear K6
  go_wp2_with fail
  refine (unhide K7 _).mono ?_
  rintro e w8 ⟨rfl, rfl⟩
  clear K7
  go_wp2_with fail
  go_loopw [16] (fun iv wr => ∃ k : Nat, 1 ≤ k ∧ k ≤ 14 ∧ iv = .int .i64 (k : Int) ∧ Hid (Below w.heap.size w wr)) (fun iv _ => 14 - (intOf iv).toNat)
  case atStart => exact ⟨1, by omega, by omega, rfl, HB⟩
  case round =>
    obtain ⟨k, hk1, hk2, rfl, hI⟩ := hrel
    clear HB
    by_cases hlt : k ≤ 13
    · have hle : (k : Int) ≤ 13 := by omega
      by_cases h7 : k = 7 ∨ k = 8 ∨ k = 11
      · rcases h7 with rfl | rfl | rfl
        · go_wp2_with fail
          go_roundw
          case rel => exact ⟨8, by omega, by omega, rfl, hI⟩
          case measure => simp [intOf]
        · go_wp2_with fail
          go_roundw
          case rel => exact ⟨9, by omega, by omega, rfl, hI⟩
          case measure => simp [intOf]
        · go_wp2_with fail
          go_roundw
          case rel => exact ⟨12, by omega, by omega, rfl, hI⟩
          case measure => simp [intOf]
      · have KP := hide (play_nil k (by omega) wr)
        have d7 : ((k : Int) != 7) = true := by simp; omega
        have d8 : ((k : Int) != 8) = true := by simp; omega
        have d11 : ((k : Int) != 11) = true := by simp; omega
        clear h7
        go_wp2_with fail
        refine (unhide KP).mono ?_
        rintro e w9 ⟨rfl, hb⟩
        have hI := hide (hI.out.trans (hb.mono hI.out.size))
        clear KP hb
        go_wp2_with fail
        go_roundw
        case rel => exact ⟨k + 1, by omega, by omega, by go_num, hI⟩
        case measure => simp [intOf]; omega
    · obtain rfl : k = 14 := by omega
      go_wp2_with fail
      refine (unhide K8 _).mono ?_
      rintro e w9 ⟨rfl, rfl⟩
      clear K8
      go_wp2_with fail
      go_ret
      exact ⟨rfl, hI.out⟩

end Go.Proofs.YtknmgefpjdfenaaGreat
