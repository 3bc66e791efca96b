/- Joined: CName2, CWakes. -/
import Derived.Test.YtmdkcoenjadieaaDoorVCText
import Derived.Test.YtmdkcoenjadieaaDoorVJ25
import Derived.Test.YtmdkcoenjadieaaDoorVCDir
/- Contract of codec.Name: a name that is let. -/
namespace Go.Proofs.YtmdkcoenjadieaaDoor
open Go.RowKit Go.Shelf
set_option linter.unusedVariables false
set_option maxRecDepth 100000

/-- May a name have this byte? -/
def inName (z : Int) : Bool := (decide (97 ≤ z) && decide (z ≤ 122)) || (decide (48 ≤ z) && decide (z ≤ 57)) || decide (z = 46) || decide (z = 95) || decide (z = 45)

set_option maxHeartbeats 4000000 in
theorem inNames_any (z : Int) (w : World) (h0 : 0 ≤ z) (h1 : z ≤ 255) :
    Calls Tryd.prog 81 #[.int .u8 z] w fun e w' => e = .returned (.bool (inName z)) ∧ w = w' := by
  have hlast : ∀ b, (inName z = b) → Hid (inName z = b) := fun b h => h
  obtain ⟨b, hb⟩ : ∃ b, inName z = b := ⟨_, rfl⟩
  have HB := hlast b hb
  rw [hb]
  clear hlast
  unfold inName at hb
  by_cases a1 : 97 ≤ z
  · by_cases a2 : z ≤ 122
    · obtain rfl : b = true := by
        rw [← hb]
        simp
        omega
      have d0 : decide (97 ≤ z) = true := by simp; omega
      clear hb
      go_enter Tryd.func81, Tryd.ntmps81
      go_wp2
      go_ret
      exact ⟨rfl, rfl⟩
    · obtain rfl : b = false := by
        rw [← hb]
        simp
        omega
      have d0 : decide (97 ≤ z) = true := by simp; omega
      have d1 : decide (z ≤ 122) = false := by simp; omega
      have d2 : decide (48 ≤ z) = true := by simp; omega
      have d3 : decide (z ≤ 57) = false := by simp; omega
      have d4 : (z == 46) = false := by simp; omega
      have d5 : (z == 95) = false := by simp; omega
      have d6 : (z == 45) = false := by simp; omega
      clear hb
      go_enter Tryd.func81, Tryd.ntmps81
      go_wp2
      go_ret
      exact ⟨rfl, rfl⟩
  · by_cases a2 : 48 ≤ z
    · by_cases a3 : z ≤ 57
      · obtain rfl : b = true := by
          rw [← hb]
          simp
          omega
        have d0 : decide (97 ≤ z) = false := by simp; omega
        have d1 : decide (48 ≤ z) = true := by simp; omega
        clear hb
        go_enter Tryd.func81, Tryd.ntmps81
        go_wp2
        go_ret
        exact ⟨rfl, rfl⟩
      · by_cases a4 : z = 95
        · obtain rfl : b = true := by
            rw [← hb]
            simp
            omega
          have d0 : decide (97 ≤ z) = false := by simp; omega
          have d1 : decide (48 ≤ z) = true := by simp; omega
          have d2 : decide (z ≤ 57) = false := by simp; omega
          have d3 : (z == 46) = false := by simp; omega
          have d4 : (z == 95) = true := by simp; omega
          clear hb
          go_enter Tryd.func81, Tryd.ntmps81
          go_wp2
          go_ret
          exact ⟨rfl, rfl⟩
        · obtain rfl : b = false := by
            rw [← hb]
            simp
            omega
          have d0 : decide (97 ≤ z) = false := by simp; omega
          have d1 : decide (48 ≤ z) = true := by simp; omega
          have d2 : decide (z ≤ 57) = false := by simp; omega
          have d3 : (z == 46) = false := by simp; omega
          have d4 : (z == 95) = false := by simp; omega
          have d5 : (z == 45) = false := by simp; omega
          clear hb
          go_enter Tryd.func81, Tryd.ntmps81
          go_wp2
          go_ret
          exact ⟨rfl, rfl⟩
    · by_cases a3 : z = 46
      · obtain rfl : b = true := by
          rw [← hb]
          simp
          omega
        have d0 : decide (97 ≤ z) = false := by simp; omega
        have d1 : decide (48 ≤ z) = false := by simp; omega
        have d2 : (z == 46) = true := by simp; omega
        clear hb
        go_enter Tryd.func81, Tryd.ntmps81
        go_wp2
        go_ret
        exact ⟨rfl, rfl⟩
      · by_cases a4 : z = 45
        · obtain rfl : b = true := by
            rw [← hb]
            simp
            omega
          have d0 : decide (97 ≤ z) = false := by simp; omega
          have d1 : decide (48 ≤ z) = false := by simp; omega
          have d2 : (z == 46) = false := by simp; omega
          have d3 : (z == 95) = false := by simp; omega
          have d4 : (z == 45) = true := by simp; omega
          clear hb
          go_enter Tryd.func81, Tryd.ntmps81
          go_wp2
          go_ret
          exact ⟨rfl, rfl⟩
        · obtain rfl : b = false := by
            rw [← hb]
            simp
            omega
          have d0 : decide (97 ≤ z) = false := by simp; omega
          have d1 : decide (48 ≤ z) = false := by simp; omega
          have d2 : (z == 46) = false := by simp; omega
          have d3 : (z == 95) = false := by simp; omega
          have d4 : (z == 45) = false := by simp; omega
          clear hb
          go_enter Tryd.func81, Tryd.ntmps81
          go_wp2
          go_ret
          exact ⟨rfl, rfl⟩

set_option maxHeartbeats 4000000 in
theorem name_good (s : ByteArray) (w : World) (h1 : 1 ≤ s.size) (h2 : s.size ≤ 13) (h3 : (s.toList == [46]) = false) (h4 : (s.toList == [46, 46]) = false) (ha : ∀ z ∈ byts s, inName z = true) :
    Calls Tryd.prog 68 #[.string s] w fun e w' => e = .returned (.int .i64 0) ∧ Below w.heap.size w w' := by
  obtain ⟨v, u, hr, ⟨a, c, rfl, hh, hby, _, _⟩, hg⟩ := text_conv w.heap.size s w (Nat.le_refl _) (by omega)
  have HA := hide ha
  have HH := hide hh
  have HG := hide hg
  have HY := hide hby
  have hl := byts_length s
  have d1 : decide ((s.size : Int) < 1) = false := by simp; omega
  have d2 : decide ((s.size : Int) > 13) = false := by simp; omega
  generalize hn : s.size = n at *
  clear ha hh hg hby
  go_enter Tryd.func68, Tryd.ntmps68
  go_wp2
  go_loop [24] (fun i => ∃ k : Nat, k ≤ n ∧ i = .int .i64 (k : Int)) (fun i => n - (intOf i).toNat)
  case atStart => exact ⟨0, Nat.zero_le _, rfl⟩
  case round =>
    obtain ⟨k, hk, rfl⟩ := hrel
    by_cases hlt : k < n
    · obtain ⟨b, off, rfl, hc⟩ := HH.out.2 (by omega)
      have hck := hc k hlt
      have hmem : (byts s)[k]?.getD 0 ∈ byts s := by rw [List.getElem?_eq_getElem (by omega)]; exact List.getElem_mem _
      have hz := HY.out _ hmem
      have hin := HA.out _ hmem
      generalize (byts s)[k]?.getD 0 = z at *
      have KI : Hid (Calls Tryd.prog 81 #[.int .u8 z] u fun e w' => e = .returned (.bool true) ∧ u = w') := by
        have := inNames_any z u hz.1 hz.2
        rwa [hin] at this
      clear hc hmem hin
      go_wp2_with (go_at_call 81; refine (unhide KI).mono ?_; rintro e w' ⟨rfl, rfl⟩)
      exact ⟨⟨k + 1, by omega, by go_num⟩, by simp [intOf]; omega⟩
    · obtain rfl : k = n := by omega
      go_wp2
      go_ret
      exact ⟨rfl, HG.out.1⟩

end Go.Proofs.YtmdkcoenjadieaaDoor

/- Contract of the fixed call. -/
namespace Go.Proofs.YtmdkcoenjadieaaDoor
open Go.RowKit Go.Shelf
set_option linter.unusedVariables false
set_option maxRecDepth 100000

/-- ab. -/
def abS : ByteArray := ⟨#[97, 98]⟩

def wakeS : ByteArray := ⟨#[3, 0, 97, 98, 0, 0, 0, 0, 0, 0, 0, 0, 0, 0, 0, 0]⟩

theorem wake_bytes : strOfNums (layB 16 (dirL 3 abS)) = wakeS := by decide +kernel

theorem name_ab (u : World) : Calls Tryd.prog 68 #[.string abS] u fun e w' => e = .returned (.int .i64 0) ∧ Below u.heap.size u w' :=
  name_good abS u (by decide +kernel) (by decide +kernel) (by decide +kernel) (by decide +kernel) (by decide +kernel)

set_option maxHeartbeats 2000000 in
theorem wakes_any (w : World) : Calls Tryd.prog 8 #[] w fun e w' => e = .returned (.bool true) ∧ Below w.heap.size w w' := by
  have K : Hid (∀ u, Calls Tryd.prog 30 #[.agg #[.int .i64 3, .string ⟨#[97, 98]⟩]] u fun e w' => ∃ a c, e = .returned (.tuple #[.slice a 16 c, .int .i64 0]) ∧ (∀ n, (convert 26 9 (.slice a 16 c)).run Tryd.prog (w'.drewN n) = .ok (.string wakeS) (w'.drewN n)) ∧ (convert 26 9 (.slice a 16 c)).run Tryd.prog w' = .ok (.string wakeS) w' ∧ Below u.heap.size u w') := by
    intro u
    refine (dirent_named 3 abS u (by omega) (by decide +kernel) (by decide +kernel) (fun u => name_ab u)).mono ?_
    rintro e w' ⟨a, c, rfl, hh, hb⟩
    have h1 := hh.out.1.conv c
    have h2 := fun n => (hh.out.1.drewN n).conv c
    rw [wake_bytes] at h1
    refine ⟨a, c, rfl, fun n => ?_, h1, hb⟩
    have := h2 n
    rwa [wake_bytes] at this
  go_enter Tryd.func8, Tryd.ntmps8
  go_wp2_with fail
  go_at_call 30
  refine (unhide K _).mono ?_
  rintro e w1 ⟨a, c, rfl, hcn, hc1, hb⟩
  have HB := hide hb
  have hw1 : (wakeS.toList == [3, 0, 97, 98, 0, 0, 0, 0, 0, 0, 0, 0, 0, 0, 0, 0]) = true := by decide +kernel
  clear hb K hcn
  go_wp2_with fail
  go_ret
  exact ⟨rfl, HB.out⟩

end Go.Proofs.YtmdkcoenjadieaaDoor

