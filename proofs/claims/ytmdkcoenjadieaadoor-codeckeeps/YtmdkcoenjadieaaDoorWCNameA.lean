/- Contracts of codec.Name and codec.Dirent: all ways. -/
import Derived.Test.YtmdkcoenjadieaaDoorWJ30
import Derived.Test.YtmdkcoenjadieaaDoorWJ30
namespace Go.Proofs.YtmdkcoenjadieaaDoor
open Go.RowKit Go.Shelf
set_option linter.unusedVariables false
set_option maxRecDepth 100000

/-- Is it a name? -/
def nameB (s : ByteArray) : Bool := decide (1 ≤ s.size) && decide (s.size ≤ 13) && !(s.toList == [46]) && !(s.toList == [46, 46]) && (byts s).all inName

theorem name_yes (s : ByteArray) (w : World) (h : nameB s = true) :
    Calls Tryd.prog 68 #[.string s] w fun e w' => e = .returned (.int .i64 0) ∧ Below w.heap.size w w' := by
  unfold nameB at h
  simp only [Bool.and_eq_true, decide_eq_true_eq, Bool.not_eq_true', List.all_eq_true] at h
  obtain ⟨⟨⟨⟨h1, h2⟩, h3⟩, h4⟩, h5⟩ := h
  exact name_good s w h1 h2 h3 h4 h5

set_option maxHeartbeats 2000000 in
theorem name_low (s : ByteArray) (w : World) (hm : s.size ≤ 9223372036854775807) (h1 : s.size < 1) :
    Calls Tryd.prog 68 #[.string s] w fun e w' => e = .returned (.int .i64 16) ∧ Below w.heap.size w w' := by
  have d1 : decide ((s.size : Int) < 1) = true := by simp; omega
  generalize hn : s.size = n at *
  go_enter Tryd.func68, Tryd.ntmps68
  go_wp2
  go_ret
  exact ⟨rfl, Below.refl _ _⟩

set_option maxHeartbeats 2000000 in
theorem name_high (s : ByteArray) (w : World) (hm : s.size ≤ 9223372036854775807) (h2 : 13 < s.size) :
    Calls Tryd.prog 68 #[.string s] w fun e w' => e = .returned (.int .i64 16) ∧ Below w.heap.size w w' := by
  have d1 : decide ((s.size : Int) < 1) = false := by simp; omega
  have d2 : decide ((s.size : Int) > 13) = true := by simp; omega
  generalize hn : s.size = n at *
  go_enter Tryd.func68, Tryd.ntmps68
  go_wp2
  go_ret
  exact ⟨rfl, Below.refl _ _⟩

set_option maxHeartbeats 2000000 in
theorem name_dot (s : ByteArray) (w : World) (hm : s.size ≤ 9223372036854775807) (h1 : 1 ≤ s.size) (h2 : s.size ≤ 13) (h3 : (s.toList == [46]) = true) :
    Calls Tryd.prog 68 #[.string s] w fun e w' => e = .returned (.int .i64 16) ∧ Below w.heap.size w w' := by
  have d1 : decide ((s.size : Int) < 1) = false := by simp; omega
  have d2 : decide ((s.size : Int) > 13) = false := by simp; omega
  generalize hn : s.size = n at *
  go_enter Tryd.func68, Tryd.ntmps68
  go_wp2
  go_ret
  exact ⟨rfl, Below.refl _ _⟩

set_option maxHeartbeats 2000000 in
theorem name_dots (s : ByteArray) (w : World) (hm : s.size ≤ 9223372036854775807) (h1 : 1 ≤ s.size) (h2 : s.size ≤ 13) (h3 : (s.toList == [46]) = false) (h4 : (s.toList == [46, 46]) = true) :
    Calls Tryd.prog 68 #[.string s] w fun e w' => e = .returned (.int .i64 16) ∧ Below w.heap.size w w' := by
  have d1 : decide ((s.size : Int) < 1) = false := by simp; omega
  have d2 : decide ((s.size : Int) > 13) = false := by simp; omega
  generalize hn : s.size = n at *
  go_enter Tryd.func68, Tryd.ntmps68
  go_wp2
  go_ret
  exact ⟨rfl, Below.refl _ _⟩

set_option maxHeartbeats 4000000 in
theorem name_byte (s : ByteArray) (w : World) (h1 : 1 ≤ s.size) (h2 : s.size ≤ 13) (h3 : (s.toList == [46]) = false) (h4 : (s.toList == [46, 46]) = false) (ha : (byts s).all inName = false) :
    Calls Tryd.prog 68 #[.string s] w fun e w' => e = .returned (.int .i64 16) ∧ Below w.heap.size w w' := by
  obtain ⟨v, u, hr, ⟨a, c, rfl, hh, hby, _, _⟩, hg⟩ := text_conv w.heap.size s w (Nat.le_refl _) (by omega)
  have HA : Hid (¬ ∀ z ∈ byts s, inName z = true) := fun h => by
    rw [List.all_eq_true.2 h] at ha
    cases ha
  have HH := hide hh
  have HG := hide hg
  have HY := hide hby
  have hl := byts_length s
  have d1 : decide ((s.size : Int) < 1) = false := by simp; omega
  have d2 : decide ((s.size : Int) > 13) = false := by simp; omega
  generalize hn : s.size = n at *
  clear ha hh hg hby
  go_enter Tryd.func68, Tryd.ntmps68
  go_wp2
  go_loop [24] (fun i => ∃ k : Nat, k ≤ n ∧ i = .int .i64 (k : Int) ∧ Hid (∀ j, j < k → inName ((byts s)[j]?.getD 0) = true)) (fun i => n - (intOf i).toNat)
  case atStart => exact ⟨0, Nat.zero_le _, rfl, fun j hj => by omega⟩
  case round =>
    obtain ⟨k, hk, rfl, hj⟩ := hrel
    by_cases hlt : k < n
    · obtain ⟨b, off, rfl, hc⟩ := HH.out.2 (by omega)
      have hck := hc k hlt
      have hmem : (byts s)[k]?.getD 0 ∈ byts s := by rw [List.getElem?_eq_getElem (by omega)]; exact List.getElem_mem _
      have hz := HY.out _ hmem
      have HJ : Hid (inName ((byts s)[k]?.getD 0) = true → ∀ j, j < k + 1 → inName ((byts s)[j]?.getD 0) = true) := by
        intro h j hjk
        by_cases he : j = k
        · subst he; exact h
        · exact hj.out j (by omega)
      generalize (byts s)[k]?.getD 0 = z at *
      clear hc hmem hj
      by_cases hin : inName z = true
      · have KI : Hid (Calls Tryd.prog 81 #[.int .u8 z] u fun e w' => e = .returned (.bool true) ∧ u = w') := by
          have := inNames_any z u hz.1 hz.2
          rwa [hin] at this
        have HJ' := hide (HJ.out hin)
        clear hin HJ
        go_wp2_with (go_at_call 81; refine (unhide KI).mono ?_; rintro e w' ⟨rfl, rfl⟩)
        exact ⟨⟨k + 1, by omega, by go_num, HJ'⟩, by simp [intOf]; omega⟩
      · have KI : Hid (Calls Tryd.prog 81 #[.int .u8 z] u fun e w' => e = .returned (.bool false) ∧ u = w') := by
          have := inNames_any z u hz.1 hz.2
          rwa [show inName z = false by simpa using hin] at this
        clear hin HJ
        go_wp2_with (go_at_call 81; refine (unhide KI).mono ?_; rintro e w' ⟨rfl, rfl⟩)
        go_ret
        exact ⟨rfl, HG.out.1⟩
    · obtain rfl : k = n := by omega
      refine absurd ?_ HA.out
      intro z hz
      obtain ⟨j, hjl, rfl⟩ := List.getElem_of_mem hz
      have := hj.out j (by omega)
      rwa [List.getElem?_eq_getElem hjl, Option.getD_some] at this

theorem name_no (s : ByteArray) (w : World) (hm : s.size ≤ 9223372036854775807) (h : nameB s = false) :
    Calls Tryd.prog 68 #[.string s] w fun e w' => e = .returned (.int .i64 16) ∧ Below w.heap.size w w' := by
  by_cases h1 : 1 ≤ s.size
  · by_cases h2 : s.size ≤ 13
    · by_cases h3 : (s.toList == [46]) = true
      · exact name_dot s w hm h1 h2 h3
      · have h3 : (s.toList == [46]) = false := by simpa using h3
        by_cases h4 : (s.toList == [46, 46]) = true
        · exact name_dots s w hm h1 h2 h3 h4
        · have h4 : (s.toList == [46, 46]) = false := by simpa using h4
          refine name_byte s w h1 h2 h3 h4 ?_
          unfold nameB at h
          rw [h3, h4] at h
          simpa [h1, h2] using h
    · exact name_high s w hm (by omega)
  · exact name_low s w hm (by omega)

/-- The error of a name. -/
def nameE (s : ByteArray) : Int := if nameB s = true then 0 else 16

theorem name_any (s : ByteArray) (w : World) (hm : s.size ≤ 9223372036854775807) :
    Calls Tryd.prog 68 #[.string s] w fun e w' => e = .returned (.int .i64 (nameE s)) ∧ Below w.heap.size w w' := by
  unfold nameE
  by_cases h : nameB s = true
  · rw [if_pos h]; exact name_yes s w h
  · rw [if_neg h]; exact name_no s w hm (by simpa using h)

end Go.Proofs.YtmdkcoenjadieaaDoor
