/- Contract of codec.Name: a name that is let. -/
import Derived.Test.YtmdkcoenjadieaaDoorCName
namespace Go.Proofs.YtmdkcoenjadieaaDoor
open Go.RowKit Go.Shelf
set_option linter.unusedVariables false
set_option maxRecDepth 100000

set_option maxHeartbeats 4000000 in
theorem name_good (s : ByteArray) (w : World) (h1 : 1 ≤ s.size) (h2 : s.size ≤ 13) (h3 : (s.toList == [46]) = false) (h4 : (s.toList == [46, 46]) = false) (ha : ∀ z ∈ byts s, inName z = true) :
    Calls Tryd.prog 68 #[.string s] w fun e w' => e = .returned (.int .i64 0) ∧ Below w.heap.size w w' := by
  obtain ⟨v, u, hr, ⟨a, c, rfl, hh, hby, _, _⟩, hg⟩ := text_conv w.heap.size s w (Nat.le_refl _) (by omega)
  have HA := hide ha
  have HH := hide hh
  have HG := hide hg
  have HY := hide hby
  have hl := byts_length s
  have d1 : decide ((s.size : Int) < 1) = false := by simp; omega
  have d2 : decide ((s.size : Int) > 13) = false := by simp; omega
  generalize hn : s.size = n at *
  clear ha hh hg hby
  go_enter Tryd.func68, Tryd.ntmps68
  go_wp2
  go_loop [24] (fun i => ∃ k : Nat, k ≤ n ∧ i = .int .i64 (k : Int)) (fun i => n - (intOf i).toNat)
  case atStart => exact ⟨0, Nat.zero_le _, rfl⟩
  case round =>
    obtain ⟨k, hk, rfl⟩ := hrel
    by_cases hlt : k < n
    · obtain ⟨b, off, rfl, hc⟩ := HH.out.2 (by omega)
      have hck := hc k hlt
      have hmem : (byts s)[k]?.getD 0 ∈ byts s := by rw [List.getElem?_eq_getElem (by omega)]; exact List.getElem_mem _
      have hz := HY.out _ hmem
      have hin := HA.out _ hmem
      generalize (byts s)[k]?.getD 0 = z at *
      have KI : Hid (Calls Tryd.prog 81 #[.int .u8 z] u fun e w' => e = .returned (.bool true) ∧ u = w') := by
        have := inNames_any z u hz.1 hz.2
        rwa [hin] at this
      clear hc hmem hin
      go_wp2_with (go_at_call 81; refine (unhide KI).mono ?_; rintro e w' ⟨rfl, rfl⟩)
      exact ⟨⟨k + 1, by omega, by go_num⟩, by simp [intOf]; omega⟩
    · obtain rfl : k = n := by omega
      go_wp2
      go_ret
      exact ⟨rfl, HG.out.1⟩

end Go.Proofs.YtmdkcoenjadieaaDoor
