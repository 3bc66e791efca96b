/- The contract of SameInts. -/
import Derived.Test.YtielammfimeedaaPKeep
namespace Go.Proofs.Ytielammfimeedaa
open Go.RowKit Go.Shelf
set_option linter.unusedVariables false

set_option maxHeartbeats 1000000 in
theorem sameInts_any (a1 a2 : Option Addr) (n1 n2 c1 c2 : Nat) (ns ms : List Int) (w : World) (h1 : IHas w a1 n1 ns) (h2 : IHas w a2 n2 ms) (hl1 : n1 ≤ 140737488351232) (hl2 : n2 ≤ 140737488351232) :
    Calls Try.prog 23 #[.slice a1 n1 c1, .slice a2 n2 c2] w fun r w' => r = .returned (.bool (decide (ns = ms))) ∧ ∃ m, w' = w.drewN m := by
  have H1 := hide h1
  have H2 := hide h2
  by_cases hn : n1 = n2
  · subst hn
    clear h1 h2
    go_enter Try.func23, Try.ntmps23
    go_wp2
    go_loopw [5] (fun i wr => ∃ k : Nat, k ≤ n1 ∧ i = .int .i64 (k : Int) ∧ Hid (∃ m, wr = w.drewN m) ∧ Hid (∀ j, j < k → ns[j]?.getD 0 = ms[j]?.getD 0)) (fun i _ => n1 - (intOf i).toNat)
    case atStart => exact ⟨0, Nat.zero_le _, rfl, ⟨0, rfl⟩, fun j hj => by omega⟩
    case round =>
      obtain ⟨k, hk, rfl, hw, hE⟩ := hrel
      by_cases hlt : k < n1
      · obtain ⟨b1, o1, rfl, hc1⟩ := H1.out.2 (by omega)
        obtain ⟨b2, o2, rfl, hc2⟩ := H2.out.2 (by omega)
        have e1 : wr.cell? ⟨b1, o1 + k, none⟩ = some (.int .i64 (ns[k]?.getD 0)) := by obtain ⟨m, rfl⟩ := hw.out; exact hc1 k hlt
        have e2 : wr.cell? ⟨b2, o2 + k, none⟩ = some (.int .i64 (ms[k]?.getD 0)) := by obtain ⟨m, rfl⟩ := hw.out; exact hc2 k hlt
        obtain ⟨x, hx⟩ : ∃ x, ns[k]?.getD 0 = x := ⟨_, rfl⟩
        obtain ⟨y, hy⟩ : ∃ y, ms[k]?.getD 0 = y := ⟨_, rfl⟩
        rw [hx] at e1
        rw [hy] at e2
        have HX := hide hx
        have HY := hide hy
        have hlt' : (k : Int) < (n1 : Int) := by omega
        clear hc1 hc2 hx hy
        by_cases hxy : x = y
        · subst hxy
          go_wp2
          go_quiet (fail)
          go_wp2
          refine ⟨⟨k + 1, by omega, by go_num, ?_, fun j hj => ?_⟩, by simp [intOf]; omega⟩
          · obtain ⟨m, rfl⟩ := hw.out
            exact ⟨_, World.drewN_drewN _ _ _⟩
          · by_cases hjk : j = k
            · rw [hjk, HX.out, HY.out]
            · exact hE.out j (by omega)
        · have hd : (x != y) = true := by simpa using hxy
          have hne : Hid (¬ ns = ms) := fun e => hxy (by rw [← HX.out, ← HY.out, e])
          go_wp2
          go_quiet (fail)
          go_wp2
          go_ret
          obtain ⟨m, rfl⟩ := hw.out
          refine ⟨?_, _, World.drewN_drewN _ _ _⟩
          rw [decide_eq_false hne.out]
          rfl
      · obtain rfl : k = n1 := by omega
        have he : ns = ms := by
          apply List.ext_getElem?
          intro j
          by_cases hj : j < k
          · have a := hE.out j hj
            have b1 := H1.out.1
            have b2 := H2.out.1
            rw [List.getElem?_eq_getElem (by omega), List.getElem?_eq_getElem (by omega)] at a
            rw [List.getElem?_eq_getElem (by omega), List.getElem?_eq_getElem (by omega)]
            simpa using a
          · have b1 := H1.out.1
            have b2 := H2.out.1
            rw [List.getElem?_eq_none (by omega), List.getElem?_eq_none (by omega)]
        go_wp2
        go_ret
        refine ⟨?_, hw.out⟩
        rw [decide_eq_true he]
        rfl
  · have hne : ¬ ns = ms := fun e => hn (by rw [← h1.1, ← h2.1, e])
    rw [decide_eq_false hne]
    have hn' : ¬ (n1 : Int) = (n2 : Int) := by omega
    clear h1 h2 hne
    go_enter Try.func23, Try.ntmps23
    go_wp2
    go_ret
    exact ⟨rfl, 0, rfl⟩

end Go.Proofs.Ytielammfimeedaa
