/- codec.Name and skerryref06.Name: every text. -/
import Derived.Test.YtknmgefpjdfenaaGreatTnGBase
import Derived.Laws.IdiomStrings
import Derived.OwnWalk
import Derived.Deep.DeepCutAuto
namespace Go.Proofs.YtknmgefpjdfenaaGreat
open Go.RowKit Go.Shelf
set_option linter.unusedVariables false
set_option maxRecDepth 100000

theorem text_conv (s : ByteArray) (u : World) (hs : s.size ≤ 140737488355328) :
    ∃ a c u', (convert 9 34 (.string s)).run Tryz.prog u = .ok (.slice a s.size c) u' ∧ Has u' a s.size (byts s) ∧ Below u.heap.size u u' := by
  have hr := run_bytes_of_string (P := Tryz.prog) u 9 34 5 s Tryz.underlying9 Tryz.underlying34 Tryz.underlying5
  generalize grownCap u s.size 0 5 = c at *
  refine ⟨_, _, _, hr, ⟨byts_length s, fun hp => ⟨u.heap.size, 0, rfl, fun j hj => ?_⟩⟩, ?_⟩
  · have h := World.alloc_heap_new u.drew (.cells (bytesRow s c) 5 ((bytesRow s c).size, (bytesRow s c).size + 1))
    have e : u.drew.heap.size = u.heap.size := rfl
    rw [e] at h
    simp only [World.cell?, h, Nat.zero_add]
    have := bytesRow_at s c j hj
    rw [byts_get s j hj]
    exact this
  · exact (Below.refl u.heap.size u).drew.alloc (Nat.le_refl _) _

/-- May a name have this byte? -/
def inName (z : Int) : Bool := (decide (97 ≤ z) && decide (z ≤ 122)) || (decide (48 ≤ z) && decide (z ≤ 57)) || decide (z = 46) || decide (z = 95) || decide (z = 45)

set_option maxRecDepth 100000 in
set_option maxHeartbeats 4000000 in
theorem inNames_any (z : Int) (w : World) (h0 : 0 ≤ z) (h1 : z ≤ 255) :
    Calls Tryz.prog 153 #[.int .u8 z] w fun e w' => e = .returned (.bool (inName z)) ∧ w = w' := by
  have hlast : ∀ b, (inName z = b) → Hid (inName z = b) := fun b h => h
  obtain ⟨b, hb⟩ : ∃ b, inName z = b := ⟨_, rfl⟩
  have HB := hlast b hb
  rw [hb]
  clear hlast
  unfold inName at hb
  by_cases a1 : 97 ≤ z
  · by_cases a2 : z ≤ 122
    · obtain rfl : b = true := by
        rw [← hb]
        simp
        omega
      have d0 : decide (97 ≤ z) = true := by simp; omega
      clear hb
      go_enter Tryz.func153, Tryz.ntmps153
      go_wp2
      go_ret
      exact ⟨rfl, rfl⟩
    · obtain rfl : b = false := by
        rw [← hb]
        simp
        omega
      have d0 : decide (97 ≤ z) = true := by simp; omega
      have d1 : decide (z ≤ 122) = false := by simp; omega
      have d2 : decide (48 ≤ z) = true := by simp; omega
      have d3 : decide (z ≤ 57) = false := by simp; omega
      have d4 : (z == 46) = false := by simp; omega
      have d5 : (z == 95) = false := by simp; omega
      have d6 : (z == 45) = false := by simp; omega
      clear hb
      go_enter Tryz.func153, Tryz.ntmps153
      go_wp2
      go_ret
      exact ⟨rfl, rfl⟩
  · by_cases a2 : 48 ≤ z
    · by_cases a3 : z ≤ 57
      · obtain rfl : b = true := by
          rw [← hb]
          simp
          omega
        have d0 : decide (97 ≤ z) = false := by simp; omega
        have d1 : decide (48 ≤ z) = true := by simp; omega
        clear hb
        go_enter Tryz.func153, Tryz.ntmps153
        go_wp2
        go_ret
        exact ⟨rfl, rfl⟩
      · by_cases a4 : z = 95
        · obtain rfl : b = true := by
            rw [← hb]
            simp
            omega
          have d0 : decide (97 ≤ z) = false := by simp; omega
          have d1 : decide (48 ≤ z) = true := by simp; omega
          have d2 : decide (z ≤ 57) = false := by simp; omega
          have d3 : (z == 46) = false := by simp; omega
          have d4 : (z == 95) = true := by simp; omega
          clear hb
          go_enter Tryz.func153, Tryz.ntmps153
          go_wp2
          go_ret
          exact ⟨rfl, rfl⟩
        · obtain rfl : b = false := by
            rw [← hb]
            simp
            omega
          have d0 : decide (97 ≤ z) = false := by simp; omega
          have d1 : decide (48 ≤ z) = true := by simp; omega
          have d2 : decide (z ≤ 57) = false := by simp; omega
          have d3 : (z == 46) = false := by simp; omega
          have d4 : (z == 95) = false := by simp; omega
          have d5 : (z == 45) = false := by simp; omega
          clear hb
          go_enter Tryz.func153, Tryz.ntmps153
          go_wp2
          go_ret
          exact ⟨rfl, rfl⟩
    · by_cases a3 : z = 46
      · obtain rfl : b = true := by
          rw [← hb]
          simp
          omega
        have d0 : decide (97 ≤ z) = false := by simp; omega
        have d1 : decide (48 ≤ z) = false := by simp; omega
        have d2 : (z == 46) = true := by simp; omega
        clear hb
        go_enter Tryz.func153, Tryz.ntmps153
        go_wp2
        go_ret
        exact ⟨rfl, rfl⟩
      · by_cases a4 : z = 45
        · obtain rfl : b = true := by
            rw [← hb]
            simp
            omega
          have d0 : decide (97 ≤ z) = false := by simp; omega
          have d1 : decide (48 ≤ z) = false := by simp; omega
          have d2 : (z == 46) = false := by simp; omega
          have d3 : (z == 95) = false := by simp; omega
          have d4 : (z == 45) = true := by simp; omega
          clear hb
          go_enter Tryz.func153, Tryz.ntmps153
          go_wp2
          go_ret
          exact ⟨rfl, rfl⟩
        · obtain rfl : b = false := by
            rw [← hb]
            simp
            omega
          have d0 : decide (97 ≤ z) = false := by simp; omega
          have d1 : decide (48 ≤ z) = false := by simp; omega
          have d2 : (z == 46) = false := by simp; omega
          have d3 : (z == 95) = false := by simp; omega
          have d4 : (z == 45) = false := by simp; omega
          clear hb
          go_enter Tryz.func153, Tryz.ntmps153
          go_wp2
          go_ret
          exact ⟨rfl, rfl⟩

set_option maxRecDepth 100000 in
set_option maxHeartbeats 4000000 in
theorem name_good (s : ByteArray) (w : World) (h1 : 1 ≤ s.size) (h2 : s.size ≤ 13) (h3 : (s.toList == [46]) = false) (h4 : (s.toList == [46, 46]) = false) (ha : ∀ z ∈ byts s, inName z = true) :
    Calls Tryz.prog 133 #[.string s] w fun e w' => e = .returned (.int .i64 0) ∧ Below w.heap.size w w' := by
  obtain ⟨a, c, u, hr, hh, hg⟩ := text_conv s w (by omega)
  have hby := byts_byte s
  have HA := hide ha
  have HH := hide hh
  have HG := hide hg
  have HY := hide hby
  have hl := byts_length s
  have d1 : decide ((s.size : Int) < 1) = false := by simp; omega
  have d2 : decide ((s.size : Int) > 13) = false := by simp; omega
  generalize hn : s.size = n at *
  clear ha hh hg hby
  go_enter Tryz.func133, Tryz.ntmps133
  go_wp2
  go_loop [24] (fun i => ∃ k : Nat, k ≤ n ∧ i = .int .i64 (k : Int)) (fun i => n - (intOf i).toNat)
  case atStart => exact ⟨0, Nat.zero_le _, rfl⟩
  case round =>
    obtain ⟨k, hk, rfl⟩ := hrel
    by_cases hlt : k < n
    · obtain ⟨b, off, rfl, hc⟩ := HH.out.2 (by omega)
      have hck := hc k hlt
      have hmem : (byts s)[k]?.getD 0 ∈ byts s := by rw [List.getElem?_eq_getElem (by omega)]; exact List.getElem_mem _
      have hz := HY.out _ hmem
      have hin := HA.out _ hmem
      generalize (byts s)[k]?.getD 0 = z at *
      have KI : Hid (Calls Tryz.prog 153 #[.int .u8 z] u fun e w' => e = .returned (.bool true) ∧ u = w') := by
        have := inNames_any z u hz.1 hz.2
        rwa [hin] at this
      clear hc hmem hin
      go_wp2_with (go_at_call 153; refine (unhide KI).mono ?_; rintro e w' ⟨rfl, rfl⟩)
      exact ⟨⟨k + 1, by omega, by go_num⟩, by simp [intOf]; omega⟩
    · obtain rfl : k = n := by omega
      go_wp2
      go_ret
      exact ⟨rfl, HG.out⟩

/-- Is it a name? -/
def nameB (s : ByteArray) : Bool := decide (1 ≤ s.size) && decide (s.size ≤ 13) && !(s.toList == [46]) && !(s.toList == [46, 46]) && (byts s).all inName

theorem name_yes (s : ByteArray) (w : World) (h : nameB s = true) :
    Calls Tryz.prog 133 #[.string s] w fun e w' => e = .returned (.int .i64 0) ∧ Below w.heap.size w w' := by
  unfold nameB at h
  simp only [Bool.and_eq_true, decide_eq_true_eq, Bool.not_eq_true', List.all_eq_true] at h
  obtain ⟨⟨⟨⟨h1, h2⟩, h3⟩, h4⟩, h5⟩ := h
  exact name_good s w h1 h2 h3 h4 h5

set_option maxRecDepth 100000 in
set_option maxHeartbeats 2000000 in
theorem name_low (s : ByteArray) (w : World) (hm : s.size ≤ 9223372036854775807) (h1 : s.size < 1) :
    Calls Tryz.prog 133 #[.string s] w fun e w' => e = .returned (.int .i64 16) ∧ Below w.heap.size w w' := by
  have d1 : decide ((s.size : Int) < 1) = true := by simp; omega
  generalize hn : s.size = n at *
  go_enter Tryz.func133, Tryz.ntmps133
  go_wp2
  go_ret
  exact ⟨rfl, Below.refl _ _⟩

set_option maxRecDepth 100000 in
set_option maxHeartbeats 2000000 in
theorem name_high (s : ByteArray) (w : World) (hm : s.size ≤ 9223372036854775807) (h2 : 13 < s.size) :
    Calls Tryz.prog 133 #[.string s] w fun e w' => e = .returned (.int .i64 16) ∧ Below w.heap.size w w' := by
  have d1 : decide ((s.size : Int) < 1) = false := by simp; omega
  have d2 : decide ((s.size : Int) > 13) = true := by simp; omega
  generalize hn : s.size = n at *
  go_enter Tryz.func133, Tryz.ntmps133
  go_wp2
  go_ret
  exact ⟨rfl, Below.refl _ _⟩

set_option maxRecDepth 100000 in
set_option maxHeartbeats 2000000 in
theorem name_dot (s : ByteArray) (w : World) (hm : s.size ≤ 9223372036854775807) (h1 : 1 ≤ s.size) (h2 : s.size ≤ 13) (h3 : (s.toList == [46]) = true) :
    Calls Tryz.prog 133 #[.string s] w fun e w' => e = .returned (.int .i64 16) ∧ Below w.heap.size w w' := by
  have d1 : decide ((s.size : Int) < 1) = false := by simp; omega
  have d2 : decide ((s.size : Int) > 13) = false := by simp; omega
  generalize hn : s.size = n at *
  go_enter Tryz.func133, Tryz.ntmps133
  go_wp2
  go_ret
  exact ⟨rfl, Below.refl _ _⟩

set_option maxRecDepth 100000 in
set_option maxHeartbeats 2000000 in
theorem name_dots (s : ByteArray) (w : World) (hm : s.size ≤ 9223372036854775807) (h1 : 1 ≤ s.size) (h2 : s.size ≤ 13) (h3 : (s.toList == [46]) = false) (h4 : (s.toList == [46, 46]) = true) :
    Calls Tryz.prog 133 #[.string s] w fun e w' => e = .returned (.int .i64 16) ∧ Below w.heap.size w w' := by
  have d1 : decide ((s.size : Int) < 1) = false := by simp; omega
  have d2 : decide ((s.size : Int) > 13) = false := by simp; omega
  generalize hn : s.size = n at *
  go_enter Tryz.func133, Tryz.ntmps133
  go_wp2
  go_ret
  exact ⟨rfl, Below.refl _ _⟩

set_option maxRecDepth 100000 in
set_option maxHeartbeats 4000000 in
theorem name_byte (s : ByteArray) (w : World) (h1 : 1 ≤ s.size) (h2 : s.size ≤ 13) (h3 : (s.toList == [46]) = false) (h4 : (s.toList == [46, 46]) = false) (ha : (byts s).all inName = false) :
    Calls Tryz.prog 133 #[.string s] w fun e w' => e = .returned (.int .i64 16) ∧ Below w.heap.size w w' := by
  obtain ⟨a, c, u, hr, hh, hg⟩ := text_conv s w (by omega)
  have hby := byts_byte s
  have HA : Hid (¬ ∀ z ∈ byts s, inName z = true) := fun h => by
    rw [List.all_eq_true.2 h] at ha
    cases ha
  have HH := hide hh
  have HG := hide hg
  have HY := hide hby
  have hl := byts_length s
  have d1 : decide ((s.size : Int) < 1) = false := by simp; omega
  have d2 : decide ((s.size : Int) > 13) = false := by simp; omega
  generalize hn : s.size = n at *
  clear ha hh hg hby
  go_enter Tryz.func133, Tryz.ntmps133
  go_wp2
  go_loop [24] (fun i => ∃ k : Nat, k ≤ n ∧ i = .int .i64 (k : Int) ∧ Hid (∀ j, j < k → inName ((byts s)[j]?.getD 0) = true)) (fun i => n - (intOf i).toNat)
  case atStart => exact ⟨0, Nat.zero_le _, rfl, fun j hj => by omega⟩
  case round =>
    obtain ⟨k, hk, rfl, hj⟩ := hrel
    by_cases hlt : k < n
    · obtain ⟨b, off, rfl, hc⟩ := HH.out.2 (by omega)
      have hck := hc k hlt
      have hmem : (byts s)[k]?.getD 0 ∈ byts s := by rw [List.getElem?_eq_getElem (by omega)]; exact List.getElem_mem _
      have hz := HY.out _ hmem
      have HJ : Hid (inName ((byts s)[k]?.getD 0) = true → ∀ j, j < k + 1 → inName ((byts s)[j]?.getD 0) = true) := by
        intro h j hjk
        by_cases he : j = k
        · subst he; exact h
        · exact hj.out j (by omega)
      generalize (byts s)[k]?.getD 0 = z at *
      clear hc hmem hj
      by_cases hin : inName z = true
      · have KI : Hid (Calls Tryz.prog 153 #[.int .u8 z] u fun e w' => e = .returned (.bool true) ∧ u = w') := by
          have := inNames_any z u hz.1 hz.2
          rwa [hin] at this
        have HJ' := hide (HJ.out hin)
        clear hin HJ
        go_wp2_with (go_at_call 153; refine (unhide KI).mono ?_; rintro e w' ⟨rfl, rfl⟩)
        exact ⟨⟨k + 1, by omega, by go_num, HJ'⟩, by simp [intOf]; omega⟩
      · have KI : Hid (Calls Tryz.prog 153 #[.int .u8 z] u fun e w' => e = .returned (.bool false) ∧ u = w') := by
          have := inNames_any z u hz.1 hz.2
          rwa [show inName z = false by simpa using hin] at this
        clear hin HJ
        go_wp2_with (go_at_call 153; refine (unhide KI).mono ?_; rintro e w' ⟨rfl, rfl⟩)
        go_ret
        exact ⟨rfl, HG.out⟩
    · obtain rfl : k = n := by omega
      refine absurd ?_ HA.out
      intro z hz
      obtain ⟨j, hjl, rfl⟩ := List.getElem_of_mem hz
      have := hj.out j (by omega)
      rwa [List.getElem?_eq_getElem hjl, Option.getD_some] at this

theorem name_no (s : ByteArray) (w : World) (hm : s.size ≤ 9223372036854775807) (h : nameB s = false) :
    Calls Tryz.prog 133 #[.string s] w fun e w' => e = .returned (.int .i64 16) ∧ Below w.heap.size w w' := by
  by_cases h1 : 1 ≤ s.size
  · by_cases h2 : s.size ≤ 13
    · by_cases h3 : (s.toList == [46]) = true
      · exact name_dot s w hm h1 h2 h3
      · have h3 : (s.toList == [46]) = false := by simpa using h3
        by_cases h4 : (s.toList == [46, 46]) = true
        · exact name_dots s w hm h1 h2 h3 h4
        · have h4 : (s.toList == [46, 46]) = false := by simpa using h4
          refine name_byte s w h1 h2 h3 h4 ?_
          unfold nameB at h
          rw [h3, h4] at h
          simpa [h1, h2] using h
    · exact name_high s w hm (by omega)
  · exact name_low s w hm (by omega)

/-- The error of a name. -/
def nameE (s : ByteArray) : Int := if nameB s = true then 0 else 16

theorem name_any (s : ByteArray) (w : World) (hm : s.size ≤ 9223372036854775807) :
    Calls Tryz.prog 133 #[.string s] w fun e w' => e = .returned (.int .i64 (nameE s)) ∧ Below w.heap.size w w' := by
  unfold nameE
  by_cases h : nameB s = true
  · rw [if_pos h]; exact name_yes s w h
  · rw [if_neg h]; exact name_no s w hm (by simpa using h)

end Go.Proofs.YtknmgefpjdfenaaGreat
