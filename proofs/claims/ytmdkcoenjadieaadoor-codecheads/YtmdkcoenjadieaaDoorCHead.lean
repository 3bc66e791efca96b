/- Contracts of codec.summed, codec.isBlockSize and codec.Header. -/
import Derived.Test.YtmdkcoenjadieaaDoorCBox
import Derived.Test.YtmdkcoenjadieaaDoorPCheck
import Derived.Test.YtmdkcoenjadieaaDoorGMore
namespace Go.Proofs.YtmdkcoenjadieaaDoor
open Go.RowKit Go.Shelf
set_option linter.unusedVariables false
set_option maxRecDepth 100000

/-- A block that begins with a head and its sum. -/
def sumB (n : Nat) (h : List Int) : List Int := layB n (h ++ digits 4 ((sumS h : Nat) : Int))

theorem numsB_one (wd : Nat) (z : Int) : numsB wd [z] = digits wd z := by simp [numsB]

theorem fitB_sum {zs : List Int} (h : Byts zs) : fitB 4 [((sumS zs : Nat) : Int)] = true := by
  have := sumS_lt h
  rw [fitB_iff]
  intro v hv
  simp at hv
  subst hv
  omega

set_option maxHeartbeats 2000000 in
theorem summed_any (a : Option Addr) (len cap : Nat) (zs : List Int) (block : Nat) (w : World) (h : Has w a len zs) (hby : Byts zs) (hT : Tab w) (hl : len + 4 ≤ block) (hb : block ≤ 4096) :
    Calls Tryd.prog 38 #[.slice a len cap, .int .i64 (block : Int)] w fun e w' => ∃ g, e = .returned (.slice (some ⟨g, 0, none⟩) block block) ∧ w.heap.size ≤ g ∧ Hid (Block w' g (sumB block zs)) ∧ Below w.heap.size w w' := by
  have hlen := h.1
  have K1 := hide (sum_any a len cap zs w hT h (by omega) hby)
  have hf := fitB_sum hby
  have HS : Hid (sumB block zs = layB block (zs ++ digits 4 ((sumS zs : Nat) : Int))) := rfl
  generalize sumS zs = S at *
  have K2 : Hid (Calls Tryd.prog 37 #[.int .i64 4, .slice (some ⟨w.heap.size, 0, none⟩) 1 1] (w.alloc (.cells #[.int .i64 (S : Int)] 3)) fun e w' => ∃ a4 c4, e = .returned (.slice a4 4 c4) ∧ Hid (Has w' a4 4 (digits 4 (S : Int)) ∧ Below w.heap.size w w')) := by
    refine (numbers_any 4 (.inr (.inr rfl)) _ 1 1 [(S : Int)] _ (ihas_list w [(S : Int)]) (by omega) hf 4 rfl).mono ?_
    rintro e w' ⟨a', c', rfl, hO, hb⟩
    rw [numsB_one] at hO
    exact ⟨a', c', rfl, hO.out.has, bchain ((Below.refl _ w).alloc (Nat.le_refl _) _) hb (Nat.le_refl _)⟩
  have K3 : Hid (∀ a4 c4 w1, Hid (Has w1 a4 4 (digits 4 (S : Int)) ∧ Below w.heap.size w w1) → Calls Tryd.prog 36 #[.int .i64 (block : Int), .slice (some ⟨w1.heap.size, 0, none⟩) 2 2] (w1.alloc (.cells #[.slice a len cap, .slice a4 4 c4] 26)) fun e w' => ∃ g, e = .returned (.slice (some ⟨g, 0, none⟩) block block) ∧ w.heap.size ≤ g ∧ Hid (Block w' g (sumB block zs)) ∧ Below w.heap.size w w') := by
    intro a4 c4 w1 h1
    have hp := phas_list w1 [(a, len, cap, zs), (a4, 4, c4, digits 4 (S : Int))] (by
      intro p hp
      simp at hp
      rcases hp with rfl | rfl
      · exact h.later h1.out.2
      · exact h1.out.1)
    have hall : allP [(a, len, cap, zs), (a4, 4, c4, digits 4 (S : Int))] = zs ++ digits 4 (S : Int) := by simp [allP]
    refine (clay_any block _ 2 2 _ _ hp (by omega) (by rw [hall, List.length_append, length_digits]; omega) (by omega)).mono ?_
    rintro e w' ⟨rfl, hB, hb⟩
    rw [hall] at hB
    refine ⟨_, rfl, by have := h1.out.2.size; simp; omega, ?_, bchain (h1.out.2.alloc h1.out.2.size _) hb (Nat.le_refl _)⟩
    rw [HS.out]; exact hB
  clear h hby hT hf HS
  go_enter Tryd.func38, Tryd.ntmps38
  go_wp2_with fail
  go_at_call 54
  refine (unhide K1).mono ?_
  rintro e w' ⟨rfl, rfl⟩
  go_wp2_with fail
  go_at_call 37
  refine (unhide K2).mono ?_
  rintro e w1 ⟨a4, c4, rfl, h1⟩
  go_wp2_with fail
  go_at_call 36
  refine (unhide K3 a4 c4 w1 h1).mono ?_
  rintro e w2 ⟨g, rfl, hg, hB, hb2⟩
  go_wp2_with fail
  go_ret
  exact ⟨g, rfl, hg, hB, hb2⟩

theorem size_make {b : Int} (h : isSize b) : makeE b 10 2 4 = 0 := by
  rcases h with rfl | rfl | rfl | rfl | rfl | rfl | rfl <;> decide +kernel

theorem size_make_no {b : Int} (h : ¬ isSize b) : makeE b 10 2 4 = 1 := makeE_bad (.inl h)

set_option maxHeartbeats 2000000 in
theorem cblock_e (b : Int) (q : Int) (w : World) (h : makeE b 10 2 4 = q) (r : Bool) (hr : (q == 0) = r) :
    Calls Tryd.prog 43 #[.int .i64 b] w fun e w' => e = .returned (.bool r) ∧ Below w.heap.size w w' := by
  have K := hide (make_any b 10 2 4 w)
  rw [h] at K
  generalize makeP b 10 2 4 = Q at *
  clear h
  go_enter Tryd.func43, Tryd.ntmps43
  go_wp2_with fail
  go_at_call 70
  refine (unhide K).mono ?_
  rintro e w1 ⟨rfl, hb⟩
  have HB := hide (hb.alloc hb.size (.cells (Pc Q) 23))
  clear K hb
  go_wp2_with fail
  go_ret
  exact ⟨rfl, HB.out⟩

theorem cblock_yes (b : Int) (w : World) (h : isSize b) : Calls Tryd.prog 43 #[.int .i64 b] w fun e w' => e = .returned (.bool true) ∧ Below w.heap.size w w' :=
  cblock_e b 0 w (size_make h) true rfl

theorem cblock_no (b : Int) (w : World) (h : ¬ isSize b) : Calls Tryd.prog 43 #[.int .i64 b] w fun e w' => e = .returned (.bool false) ∧ Below w.heap.size w w' :=
  cblock_e b 1 w (size_make_no h) false rfl

end Go.Proofs.YtmdkcoenjadieaaDoor
