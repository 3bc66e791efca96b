/- Join$1 (is the name refused?), slices.IndexFunc and slices.ContainsFunc with it. -/
import Derived.Test.YtknmgefpjdfenaaGreatTnVBase
namespace Go.Proofs.YtknmgefpjdfenaaGreat
open Go.RowKit Go.Shelf
set_option linter.unusedVariables false
set_option maxRecDepth 100000

set_option maxHeartbeats 1000000 in
theorem join1_any (x : List UInt8) (w : World) (hm : x.length ≤ 9223372036854775807) :
    Calls Tryz.prog 132 #[.string (St x)] w fun e w' => e = .returned (.bool (!nmB x)) ∧ Below w.heap.size w w' := by
  have KN := name_any (St x) w (by rw [St_size]; exact hm)
  unfold nameE at KN
  have e : nameB (St x) = nmB x := rfl
  rw [e] at KN
  clear e hm
  generalize St x = s at *
  cases hq : nmB x
  · rw [hq] at KN
    have KN := hide KN
    clear hq
    go_enter Tryz.func132, Tryz.ntmps132
    go_wp2_with (go_at_call 133; refine (unhide KN).mono ?_; rintro e w' ⟨rfl, hb⟩; have HB := hide hb; clear hb KN)
    go_ret
    exact ⟨rfl, HB.out⟩
  · rw [hq] at KN
    have KN := hide KN
    clear hq
    go_enter Tryz.func132, Tryz.ntmps132
    go_wp2_with (go_at_call 133; refine (unhide KN).mono ?_; rintro e w' ⟨rfl, hb⟩; have HB := hide hb; clear hb KN)
    go_ret
    exact ⟨rfl, HB.out⟩

set_option maxHeartbeats 2000000 in
theorem indexF_any (a : Option Addr) (n c : Nat) (xs : List (List UInt8)) (w : World) (h : HasS w a n xs) (hn : n ≤ 140737488351232) (hm : ∀ j : Nat, (xs[j]?.getD []).length ≤ 9223372036854775807) :
    Calls Tryz.prog 154 #[.slice a n c, .func (.func 132) #[] #[]] w fun e w' => (∃ r : Int, e = .returned (.int .i64 r) ∧ decide (r ≥ 0) = xs.any (fun x => !nmB x)) ∧ Below w.heap.size w w' := by
  have HH := hide h
  have HM := hide hm
  have HT : Hid (∀ j, j < n → nmB (xs[j]?.getD []) = false → xs.any (fun x => !nmB x) = true) := by
    intro j hj hf
    rw [List.any_eq_true]
    have hjl : j < xs.length := by rw [h.1]; exact hj
    refine ⟨xs[j], List.getElem_mem _, ?_⟩
    rw [List.getElem?_eq_getElem hjl, Option.getD_some] at hf
    rw [hf]; rfl
  have HF : Hid ((∀ j, j < n → nmB (xs[j]?.getD []) = true) → xs.any (fun x => !nmB x) = false) := by
    intro hj
    rw [List.any_eq_false]
    intro x hx
    obtain ⟨j, hjl, rfl⟩ := List.getElem_of_mem hx
    have := hj j (by rw [← h.1]; exact hjl)
    rw [List.getElem?_eq_getElem hjl, Option.getD_some] at this
    rw [this]; simp
  generalize xs.any (fun x => !nmB x) = q at *
  clear h hm
  go_enter Tryz.func154, Tryz.ntmps154
  go_wp2_with fail
  go_loopw [8] (fun iv wr => ∃ k : Nat, k ≤ n ∧ iv = .int .i64 (k : Int) ∧ Hid (Below w.heap.size w wr ∧ ∀ j, j < k → nmB (xs[j]?.getD []) = true)) (fun iv _ => n - (intOf iv).toNat)
  case atStart => exact ⟨0, Nat.zero_le _, rfl, Below.refl _ _, fun j hj => by omega⟩
  case round =>
    obtain ⟨k, hk, rfl, hw⟩ := hrel
    by_cases hlt : k < n
    · obtain ⟨b, o, rfl, hcl⟩ := (HH.out.below hw.out.1 (Nat.le_refl _)).cell hlt
      have K1 := join1_any (xs[k]?.getD []) wr (HM.out k)
      have HS : Hid (nmB (xs[k]?.getD []) = true → ∀ j, j < k + 1 → nmB (xs[j]?.getD []) = true) := by
        intro h j hj
        by_cases e : j = k
        · subst e; exact h
        · exact hw.out.2 j (by omega)
      have HQ := hide (HT.out k hlt)
      have HB := hide hw.out.1
      unfold sv at hcl
      generalize xs[k]?.getD [] = x at *
      generalize St x = s at *
      have hlt' : (k : Int) < (n : Int) := by omega
      cases hq : nmB x
      · rw [hq] at K1
        have K1 := hide K1
        have HQ := hide (HQ.out hq)
        clear hq HS HH HM HT HF hw hlt
        go_wp2_with fail
        refine (unhide K1).mono ?_
        rintro e w1 ⟨rfl, hb⟩
        have HB := hide (HB.out.trans (hb.mono HB.out.size))
        clear K1 hb hcl
        go_wp2_with fail
        go_ret
        refine ⟨⟨k, rfl, ?_⟩, HB.out⟩
        rw [HQ.out]; simp
      · rw [hq] at K1
        have K1 := hide K1
        have HS := hide (HS.out hq)
        clear hq HQ HH HM HT HF hw hlt
        go_wp2_with fail
        refine (unhide K1).mono ?_
        rintro e w1 ⟨rfl, hb⟩
        have HB := hide (HB.out.trans (hb.mono HB.out.size))
        clear K1 hb hcl
        go_wp2_with fail
        go_roundw
        case rel => exact ⟨k + 1, by omega, by go_num, HB.out, HS.out⟩
        case measure => simp [intOf]; omega
    · obtain rfl : k = n := by omega
      go_wp2_with fail
      go_ret
      refine ⟨⟨-1, rfl, ?_⟩, hw.out.1⟩
      rw [HF.out hw.out.2]; simp

set_option maxHeartbeats 1000000 in
theorem contF_any (a : Option Addr) (n c : Nat) (xs : List (List UInt8)) (w : World) (h : HasS w a n xs) (hn : n ≤ 140737488351232) (hm : ∀ j : Nat, (xs[j]?.getD []).length ≤ 9223372036854775807) :
    Calls Tryz.prog 134 #[.slice a n c, .func (.func 132) #[] #[]] w fun e w' => e = .returned (.bool (xs.any (fun x => !nmB x))) ∧ Below w.heap.size w w' := by
  have K := hide (indexF_any a n c xs w h hn hm)
  clear h hm
  generalize xs.any (fun x => !nmB x) = q at *
  go_enter Tryz.func134, Tryz.ntmps134
  go_wp2_with fail
  refine (unhide K).mono ?_
  rintro e w1 ⟨⟨r, rfl, hr⟩, hb⟩
  have HB := hide hb
  have HR := hide hr
  clear K hb hr
  go_wp2_with fail
  go_ret
  exact ⟨ret_bool HR.out, HB.out⟩

end Go.Proofs.YtknmgefpjdfenaaGreat
