/- The fixed call, and CrcJoins' walk. -/
import Derived.Test.YtleknpgkghkekaaDoorFol
import Derived.Lib.SlBytesConst
namespace Go.Proofs.YtleknpgkghkekaaDoor
open Go.RowKit Go.Shelf
set_option linter.unusedVariables false

theorem tab_size {w : World} (h : Tab w) : 0 < w.heap.size := by
  have h0 := h 0 (by omega)
  cases hb : w.heap[0]? with
  | none => simp [World.cell?, hb] at h0
  | some o => exact (Array.getElem?_eq_some_iff.1 hb).1

theorem Tab.below {n : Nat} {w w' : World} (h : Tab w) (hb : Below n w w') (hn : 0 < n) : Tab w' := fun k hk => (hb.cell (p := ⟨0, k, none⟩) hn).trans (h k hk)

theorem Row.byts {n : Nat} {w : World} {a : Option Addr} {len cap : Nat} {zs : List Int} (h : Row n w a len cap zs) : Byts zs := h.2.2.2.1

theorem sum_wakes (w : World) (hT : Tab w) (fr : Nat × Nat) : Calls Tryd.prog 12 #[.slice (some ⟨w.heap.size, 0, none⟩) 9 9] (w.alloc (.cells #[.int .u8 49, .int .u8 50, .int .u8 51, .int .u8 52, .int .u8 53, .int .u8 54, .int .u8 55, .int .u8 56, .int .u8 57] 5 fr)) fun e w' =>
    e = .returned (.int .i64 3421780262) ∧ Below w.heap.size w w' := by
  have hB := (Below.refl w.heap.size w).alloc (Nat.le_refl _) (.cells #[.int .u8 49, .int .u8 50, .int .u8 51, .int .u8 52, .int .u8 53, .int .u8 54, .int .u8 55, .int .u8 56, .int .u8 57] 5 fr)
  have hn := World.alloc_heap_new w (.cells #[.int .u8 49, .int .u8 50, .int .u8 51, .int .u8 52, .int .u8 53, .int .u8 54, .int .u8 55, .int .u8 56, .int .u8 57] 5 fr)
  have hh : Has (w.alloc (.cells #[.int .u8 49, .int .u8 50, .int .u8 51, .int .u8 52, .int .u8 53, .int .u8 54, .int .u8 55, .int .u8 56, .int .u8 57] 5 fr)) (some ⟨w.heap.size, 0, none⟩) 9 [49, 50, 51, 52, 53, 54, 55, 56, 57] := by
    refine ⟨rfl, fun _ => ⟨w.heap.size, 0, rfl, fun j hj => ?_⟩⟩
    simp only [World.cell?, hn, Nat.zero_add]
    have : j = 0 ∨ j = 1 ∨ j = 2 ∨ j = 3 ∨ j = 4 ∨ j = 5 ∨ j = 6 ∨ j = 7 ∨ j = 8 := by omega
    rcases this with rfl | rfl | rfl | rfl | rfl | rfl | rfl | rfl | rfl <;> rfl
  refine (sum_any _ 9 9 [49, 50, 51, 52, 53, 54, 55, 56, 57] _ (hT.below hB (tab_size hT)) hh (by omega) (by intro z hz; simp at hz; omega)).mono ?_
  rintro e w' ⟨rfl, rfl⟩
  exact ⟨ret_int (by rw [sumS_nine]; rfl), hB⟩

set_option maxHeartbeats 1000000 in
theorem wakes_any (w : World) (hT : Tab w) : Calls Tryd.prog 9 #[] w fun e w' => e = .returned (.bool true) ∧ Below w.heap.size w w' := by
  have K := hide (sum_wakes w hT (9, 10))
  have hcv := Lib.run_convert_bytes_const (P := Tryd.prog) w 22 5 #[.int .u8 49, .int .u8 50, .int .u8 51, .int .u8 52, .int .u8 53, .int .u8 54, .int .u8 55, .int .u8 56, .int .u8 57] 9 9 Tryd.underlying22 Tryd.underlying5
  clear hT
  go_enter Tryd.func9, Tryd.ntmps9
  go_wp2_with (go_at_call 12; refine (unhide K).mono ?_; rintro e w' ⟨rfl, hb⟩)
  go_ret
  exact ⟨rfl, hb⟩

theorem addV_nat (n : Nat) (zs : List Int) (h : n < 4294967296) : addV (n : Int) zs = ((addS n zs : Nat) : Int) := by unfold addV; rw [if_neg (by omega), Int.toNat_natCast]

theorem addE_nat (n : Nat) (h : n < 4294967296) : addE (n : Int) = 0 := if_neg (by omega)

set_option maxHeartbeats 1000000 in
theorem joins_walk (a : Option Addr) (len cap : Nat) (zs : List Int) (cut : Int) (w : World) (hr : Row w.heap.size w a len cap zs) (hT : Tab w) :
    Calls Tryd.prog 5 #[.slice a len cap, .int .i64 cut] w fun e w' => e = .returned (.bool true) ∧ Below w.heap.size w w' := by
  have hlen := hr.1
  have hlc := hr.2.1
  have hl := hr.2.2.1.1
  have hby := hr.byts
  have KW := hide (wakes_any w hT)
  have main : Hid (∀ (c : Nat) w1, c ≤ len → Below w.heap.size w w1 → ∃ a1 c1 a2 c2 l2 S1, (∀ w, (Instr.slice 22 (.slice a len cap) none (some (.int .i64 (c : Int))) none).run Tryd.prog w = .ok (.slice a1 c c1) w) ∧
      (∀ w, (Instr.slice 22 (.slice a len cap) (some (.int .i64 (c : Int))) none none).run Tryd.prog w = .ok (.slice a2 l2 c2) w) ∧
      (∀ n, Calls Tryd.prog 12 #[.slice a1 c c1] (w1.drewN n) fun e w' => e = .returned (.int .i64 S1) ∧ w' = w1.drewN n) ∧
      (∀ n, Calls Tryd.prog 10 #[.int .i64 S1, .slice a2 l2 c2] (w1.drewN n) fun e w' => e = .returned (.tuple #[.int .i64 ((sumS zs : Nat) : Int), .int .i64 0]) ∧ w' = w1.drewN n)) := by
    intro c w1 hc hb
    have hr1 := hr.below hb hb.size
    have hT1 := hT.below hb (tab_size hT)
    obtain ⟨a1, c1, e1, _, h1⟩ := cut_h hr1.has hlc hc
    obtain ⟨a2, c2, e2, _, h2⟩ := cut_l hr1.has hlc hc
    have b1 : Byts (zs.take c) := fun z hz => hby z (List.mem_of_mem_take hz)
    have b2 : Byts (zs.drop c) := fun z hz => hby z (List.mem_of_mem_drop hz)
    refine ⟨a1, c1, a2, c2, len - c, ((sumS (zs.take c) : Nat) : Int), e1, e2, fun n => ?_, fun n => ?_⟩
    · refine (sum_any a1 c c1 (zs.take c) (w1.drewN n) hT1 h1 (by omega) b1).mono ?_
      rintro e w' ⟨rfl, rfl⟩
      exact ⟨rfl, rfl⟩
    · refine (add_any a2 (len - c) c2 (zs.drop c) _ (w1.drewN n) hT1 h2 (by omega) b2).mono ?_
      rintro e w' ⟨rfl, rfl⟩
      refine ⟨ret_two ?_ (addE_nat _ (sumS_lt b1)), rfl⟩
      rw [addV_nat _ _ (sumS_lt b1), addS_sumS, List.take_append_drop]
  have KS : Hid (∀ w1, Below w.heap.size w w1 → Calls Tryd.prog 12 #[.slice a len cap] w1 fun e w' => e = .returned (.int .i64 ((sumS zs : Nat) : Int)) ∧ w1 = w') := by
    intro w1 hb
    exact sum_any a len cap zs w1 (hT.below hb (tab_size hT)) (hr.below hb hb.size).has (by omega) hby
  generalize sumS zs = S at *
  clear hr hT hby
  by_cases h1 : cut < 0
  · go_enter Tryd.func5, Tryd.ntmps5
    go_wp2_with (go_at_call 9; refine (unhide KW).mono ?_; rintro e w1 ⟨rfl, hb1⟩; obtain ⟨a1, c1, a2, c2, l2, S1, e1, e2, M1, M2⟩ := unhide main len w1 (Nat.le_refl _) hb1; replace M1 := hide M1; replace M2 := hide M2)
    go_quiet ((first | (go_at_call 12; exact Calls.quiet_of_same (unhide M1 _)) | (go_at_call 10; exact Calls.quiet_of_same (unhide M2 _))))
    go_wp2_with (go_at_call 12; refine (unhide KS _ (below_drewN hb1 _)).mono ?_; rintro e w2 ⟨rfl, rfl⟩)
    go_ret
    exact ⟨rfl, below_drewN hb1 _⟩
  · by_cases h2 : (len : Int) < cut
    · go_enter Tryd.func5, Tryd.ntmps5
      go_wp2_with (go_at_call 9; refine (unhide KW).mono ?_; rintro e w1 ⟨rfl, hb1⟩; obtain ⟨a1, c1, a2, c2, l2, S1, e1, e2, M1, M2⟩ := unhide main len w1 (Nat.le_refl _) hb1; replace M1 := hide M1; replace M2 := hide M2)
      go_quiet ((first | (go_at_call 12; exact Calls.quiet_of_same (unhide M1 _)) | (go_at_call 10; exact Calls.quiet_of_same (unhide M2 _))))
      go_wp2_with (go_at_call 12; refine (unhide KS _ (below_drewN hb1 _)).mono ?_; rintro e w2 ⟨rfl, rfl⟩)
      go_ret
      exact ⟨rfl, below_drewN hb1 _⟩
    · obtain ⟨c, rfl⟩ := Int.eq_ofNat_of_zero_le (by omega : 0 ≤ cut)
      go_enter Tryd.func5, Tryd.ntmps5
      go_wp2_with (go_at_call 9; refine (unhide KW).mono ?_; rintro e w1 ⟨rfl, hb1⟩; obtain ⟨a1, c1, a2, c2, l2, S1, e1, e2, M1, M2⟩ := unhide main c w1 (by omega) hb1; replace M1 := hide M1; replace M2 := hide M2)
      go_quiet ((first | (go_at_call 12; exact Calls.quiet_of_same (unhide M1 _)) | (go_at_call 10; exact Calls.quiet_of_same (unhide M2 _))))
      go_wp2_with (go_at_call 12; refine (unhide KS _ (below_drewN hb1 _)).mono ?_; rintro e w2 ⟨rfl, rfl⟩)
      go_ret
      exact ⟨rfl, below_drewN hb1 _⟩

end Go.Proofs.YtleknpgkghkekaaDoor
