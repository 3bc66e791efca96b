/- The fixed call of the laws. -/
import Derived.Test.YtghhlcacnggjhaaVAbove
namespace Go.Proofs.Ytghhlcacnggjhaa
open Go.RowKit Go.Shelf
set_option linter.unusedVariables false
set_option maxRecDepth 100000

theorem nmB_of {x : List UInt8} (h : (decide (1 ≤ x.length) && decide (x.length ≤ 13) && !(x == [46]) && !(x == [46, 46]) && (x.map (fun b => (b.toNat : Int))).all inName) = true) : nmB x = true := by
  unfold nmB nameB byts
  rw [St_size, St_toList, data_St]
  exact h

theorem wk_spl : spl [47, 97, 47, 98, 46, 99] = some [[97], [98, 46, 99]] := by
  have h : okN [[97], [98, 46, 99]] = true := by
    rw [okN_iff]
    refine ⟨by decide, fun n hn => ?_, by decide⟩
    simp only [List.mem_cons, List.not_mem_nil, or_false] at hn
    rcases hn with rfl | rfl
    · exact nmB_of (by decide)
    · exact nmB_of (by decide)
  exact spl_jn h

set_option maxHeartbeats 1000000 in
theorem wakes_any (w : World) : Calls Try.prog 8 #[] w fun e w' => e = .returned (.bool true) ∧ Below w.heap.size w w' := by
  have K : Hid (Calls Try.prog 9 #[.string ⟨#[47, 97, 47, 98, 46, 99]⟩] w fun e w' => ∃ a c, e = .returned (.tuple #[.slice a 2 c, .int .i64 0]) ∧ OwnS w.heap.size w' a 2 c [[97], [98, 46, 99]] ∧ Below w.heap.size w w') := split_yes w wk_spl
  go_enter Try.func8, Try.ntmps8
  go_wp2_with fail
  refine (unhide K).mono ?_
  rintro e w1 ⟨x, c, rfl, ho, hb⟩
  have hb0 : Below w1.heap.size w1 (w1.alloc (.cells #[.string ⟨#[97]⟩, .string ⟨#[98, 46, 99]⟩] 9)) := (Below.refl _ w1).alloc (Nat.le_refl _) _
  have h2 : HasS (w1.alloc (.cells #[.string ⟨#[97]⟩, .string ⟨#[98, 46, 99]⟩] 9)) (some ⟨w1.heap.size, 0, none⟩) 2 [[97], [98, 46, 99]] := by
    refine ⟨rfl, fun _ => ⟨w1.heap.size, 0, rfl, by simp, fun j hj => ?_⟩⟩
    simp only [World.cell?, World.alloc_heap_new]
    match j, hj with
    | 0, _ => rfl
    | 1, _ => rfl
  have KE := hide (sameT_true x _ 2 c 2 _ _ (ho.below hb0 (Nat.le_refl _)).has h2 (by omega))
  have HB : Hid (Below w.heap.size w (w1.alloc (.cells #[.string ⟨#[97]⟩, .string ⟨#[98, 46, 99]⟩] 9))) := hb.trans (hb0.mono hb.size)
  clear K ho hb hb0 h2
  go_wp2_with fail
  refine (unhide KE).mono ?_
  rintro e w3 ⟨rfl, k, rfl⟩
  clear KE
  go_wp2_with fail
  go_ret
  exact ⟨rfl, HB.out.os, HB.out.tape, HB.out.output, HB.out.size, HB.out.block⟩

end Go.Proofs.Ytghhlcacnggjhaa
