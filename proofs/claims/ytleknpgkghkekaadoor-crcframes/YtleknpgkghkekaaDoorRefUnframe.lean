/- The contract of the document's Unframe. -/
import Derived.Test.YtleknpgkghkekaaDoorUnframe
import Derived.Test.YtleknpgkghkekaaDoorRefSum
import Derived.Test.YtleknpgkghkekaaDoorGRefGet
namespace Go.Proofs.YtleknpgkghkekaaDoor
open Go.RowKit Go.Shelf
set_option linter.unusedVariables false

theorem own_none (w : World) : Own w.heap.size (w.alloc (.cells #[] 5)) (some ⟨w.heap.size, 0, none⟩) 0 0 [] :=
  ⟨rfl, Nat.le_refl _, by unfold maxLen; omega, .inr ⟨w.heap.size, #[], rfl, Nat.le_refl _, World.alloc_heap_new w _, rfl, rfl⟩⟩

set_option maxHeartbeats 1000000 in
theorem refUnframe_out (a : Option Addr) (len cap : Nat) (at' : Int) (w : World) (h : at' < 0 ∨ (len : Int) < at') (hl : len ≤ 140737488351232) :
    Calls Tryd.prog 17 #[.slice a len cap, .int .i64 at'] w fun e w' => e = .returned (.tuple #[.slice none 0 0, .int .i64 0, .int .i64 2]) ∧ w = w' := by
  by_cases h1 : at' < 0
  · clear h
    go_enter Tryd.func17, Tryd.ntmps17
    go_wp2
    go_ret3
    exact ⟨rfl, rfl⟩
  · have h2 : (len : Int) < at' := by omega
    clear h
    go_enter Tryd.func17, Tryd.ntmps17
    go_wp2
    go_ret3
    exact ⟨rfl, rfl⟩

set_option maxHeartbeats 2000000 in
theorem refUnframe_in (a : Option Addr) (len cap : Nat) (zs : List Int) (at0 : Nat) (w : World) (hr : Row w.heap.size w a len cap zs) (hat : at0 ≤ len) :
    Calls Tryd.prog 17 #[.slice a len cap, .int .i64 (at0 : Int)] w fun e w' => UnAns w w' e at0 (zs.drop at0) (restE (zs.drop at0)) ∧ Below w.heap.size w w' := by
  have hlen := hr.1
  have hlc := hr.2.1
  have hl := hr.2.2.1.1
  have hrl : (zs.drop at0).length = len - at0 := by simp [hlen]
  have hby : Byts (zs.drop at0) := fun z hz => hr.byts z (List.mem_of_mem_drop hz)
  have KG : Hid (∀ (p n : Int) w1, p ≤ 9223372036854775807 → Below w.heap.size w w1 → Calls Tryd.prog 26 #[.slice a len cap, .int .i64 p, .int .i64 n] w1 fun e w' => e = .returned (.tuple #[.int .i64 (getVal zs p n), .int .i64 (numErr len p n)]) ∧ w1 = w') := by
    intro p n w1 hp hb
    exact refGet_any a len cap zs p n w1 (hr.below hb hb.size) hp
  have hd1 : decide ((len : Int) < (at0 : Int)) = false := by simp; omega
  rcases restE_cases (zs.drop at0) with ⟨h1, hq⟩ | ⟨h1, h2, hq⟩ | ⟨h2, h3, hq⟩ | ⟨h2, h3, hq⟩
  · have hE : numErr len at0 2 = 2 := by
      unfold numErr
      rw [if_neg (by omega), if_pos rfl]
      exact partErr_far (by omega) (by omega) (by omega)
    have K1 := unhide KG at0 2 w (by omega) (Below.refl _ _)
    rw [hE] at K1
    have K1' := hide K1
    generalize getVal zs at0 2 = V1 at *
    rw [hq]
    clear hr hby KG K1 hE hq hrl
    go_enter Tryd.func17, Tryd.ntmps17
    go_wp2_with (go_at_call 26; refine (unhide K1').mono ?_; rintro e w1 ⟨rfl, rfl⟩)
    go_ret3
    exact ⟨.inl ⟨by omega, rfl⟩, Below.refl _ _⟩
  · have hsz := sizeB_num hby h1
    have hE : numErr len at0 2 = 0 := numErr_ok (len := len) (at0 := at0) (wd := 2) (by omega) (by omega)
    have hV : getVal zs at0 2 = (sizeB (zs.drop at0) : Int) := by
      unfold getVal
      rw [hlen, if_pos hE]
      exact hsz.1
    have K1 := unhide KG at0 2 w (by omega) (Below.refl _ _)
    rw [hE, hV] at K1
    have K1' := hide K1
    rw [hq]
    have hs2 := hsz.2
    generalize sizeB (zs.drop at0) = n at *
    have hd2 : (len : Int) - (at0 : Int) < (n : Int) + 6 := by omega
    clear hr hby KG K1 hE hV hq hrl hsz
    go_enter Tryd.func17, Tryd.ntmps17
    go_wp2_with (go_at_call 26; refine (unhide K1').mono ?_; rintro e w1 ⟨rfl, rfl⟩)
    go_ret3
    exact ⟨.inl ⟨by omega, rfl⟩, Below.refl _ _⟩
  all_goals
    have hsz := sizeB_num hby (by omega)
    have hE : numErr len at0 2 = 0 := numErr_ok (len := len) (at0 := at0) (wd := 2) (by omega) (by omega)
    have hV : getVal zs at0 2 = (sizeB (zs.drop at0) : Int) := by
      unfold getVal
      rw [hlen, if_pos hE]
      exact hsz.1
    have hE2 : numErr len ((at0 : Int) + 2 + (sizeB (zs.drop at0) : Int)) 4 = 0 := by
      have := numErr_ok (len := len) (at0 := at0 + 2 + sizeB (zs.drop at0)) (wd := 4) (by omega) (by omega)
      rw [show ((at0 + 2 + sizeB (zs.drop at0) : Nat) : Int) = (at0 : Int) + 2 + (sizeB (zs.drop at0) : Int) by omega] at this
      exact this
    have hV2 : getVal zs ((at0 : Int) + 2 + (sizeB (zs.drop at0) : Int)) 4 = num (((zs.drop at0).drop (2 + sizeB (zs.drop at0))).take 4) := by
      unfold getVal
      rw [hlen, if_pos hE2, List.drop_drop, show ((at0 : Int) + 2 + (sizeB (zs.drop at0) : Int)).toNat = at0 + (2 + sizeB (zs.drop at0)) by omega]
      rfl
    have K1 := unhide KG at0 2 w (by omega) (Below.refl _ _)
    rw [hE, hV] at K1
    have K1' := hide K1
    have K2 := unhide KG ((at0 : Int) + 2 + (sizeB (zs.drop at0) : Int)) 4 w (by omega) (Below.refl _ _)
    rw [hE2, hV2] at K2
    have K2' := hide K2
    obtain ⟨sa, sc, hcs, hsc, hsh⟩ : ∃ a1 c1, (∀ w, (Instr.slice 22 (.slice a len cap) (some (.int .i64 (at0 : Int))) (some (.int .i64 ((at0 : Int) + 2 + (sizeB (zs.drop at0) : Int)))) none).run Tryd.prog w = .ok (.slice a1 (2 + sizeB (zs.drop at0)) c1) w) ∧ 2 + sizeB (zs.drop at0) ≤ c1 ∧ Has w a1 (2 + sizeB (zs.drop at0)) ((zs.drop at0).take (2 + sizeB (zs.drop at0))) := by
      have := cut_lh hr.has (l := at0) (k := 2 + sizeB (zs.drop at0)) hlc (by omega)
      rwa [show (at0 : Int) + ((2 + sizeB (zs.drop at0) : Nat) : Int) = (at0 : Int) + 2 + (sizeB (zs.drop at0) : Int) by omega] at this
    have hb0 : Below w.heap.size w (w.alloc (.cells #[] 5)) := (Below.refl _ w).alloc (Nat.le_refl _) _
    obtain ⟨pa, pc, hcp, hpc, hph⟩ : ∃ a1 c1, (∀ w, (Instr.slice 22 (.slice a len cap) (some (.int .i64 ((at0 : Int) + 2))) (some (.int .i64 ((at0 : Int) + 2 + (sizeB (zs.drop at0) : Int)))) none).run Tryd.prog w = .ok (.slice a1 (sizeB (zs.drop at0)) c1) w) ∧ sizeB (zs.drop at0) ≤ c1 ∧ Has (w.alloc (.cells #[] 5)) a1 (sizeB (zs.drop at0)) (((zs.drop at0).drop 2).take (sizeB (zs.drop at0))) := by
      have := cut_lh (hr.below hb0 hb0.size).has (l := at0 + 2) (k := sizeB (zs.drop at0)) hlc (by omega)
      rw [List.drop_drop]
      exact this
    obtain ⟨a3, c3, w3, r3, h3o⟩ : ∃ a3 c3 w3, (∀ ty, (Builtin.append_ #[22, 22] ty #[.slice (some ⟨w.heap.size, 0, none⟩) 0 0, .slice pa (sizeB (zs.drop at0)) pc]).run Tryd.prog (w.alloc (.cells #[] 5)) = .ok (.slice a3 (sizeB (zs.drop at0)) c3) w3) ∧ Hid (Own w.heap.size w3 a3 (sizeB (zs.drop at0)) c3 (((zs.drop at0).drop 2).take (sizeB (zs.drop at0))) ∧ Below w.heap.size w w3) := by
      obtain ⟨a3, c3, w3, r3, o3, _, b3⟩ := run_append_bytes (own_none w) hb0.size pc hph (by omega)
      rw [Nat.zero_add] at r3 o3
      exact ⟨a3, c3, w3, r3, o3, hb0.trans b3⟩
    have R3 := hide r3
    have KS : Hid (Calls Tryd.prog 13 #[.slice sa (2 + sizeB (zs.drop at0)) sc] w fun e w' => e = .returned (.int .i64 ((sumS ((zs.drop at0).take (2 + sizeB (zs.drop at0))) : Nat) : Int)) ∧ w = w') :=
      refSum_any _ _ _ _ w hsh (by omega) (fun z hz => hby z (List.mem_of_mem_take hz))
    rw [hq]
    have hs2 := hsz.2
    generalize num (((zs.drop at0).drop (2 + sizeB (zs.drop at0))).take 4) = X at *
    generalize sumS ((zs.drop at0).take (2 + sizeB (zs.drop at0))) = S at *
    unfold UnAns
    generalize ((zs.drop at0).drop 2).take (sizeB (zs.drop at0)) = pay at *
    generalize sizeB (zs.drop at0) = n at *
    have hd2 : ¬ (len : Int) - (at0 : Int) < (n : Int) + 6 := by omega
  · have hne : (X != (S : Int)) = true := by simpa using h3
    clear hr hby KG K1 K2 hE hE2 hV hV2 hq hrl hsz h3 r3 R3 h3o hph hsh
    go_enter Tryd.func17, Tryd.ntmps17
    go_wp2_with fail
    go_at_call 26
    refine (unhide K1').mono ?_
    rintro e w1 ⟨rfl, rfl⟩
    go_wp2_with fail
    go_at_call 26
    refine (unhide K2').mono ?_
    rintro e w2 ⟨rfl, rfl⟩
    go_wp2_with (go_at_call 13; refine (unhide KS).mono ?_; rintro e w3 ⟨rfl, rfl⟩)
    go_ret3
    exact ⟨.inl ⟨by omega, rfl⟩, Below.refl _ _⟩
  · subst h3
    clear hr hby KG K1 K2 hE hE2 hV hV2 hq hrl hsz r3 hph hsh
    go_enter Tryd.func17, Tryd.ntmps17
    go_wp2_with fail
    go_at_call 26
    refine (unhide K1').mono ?_
    rintro e w1 ⟨rfl, rfl⟩
    go_wp2_with fail
    go_at_call 26
    refine (unhide K2').mono ?_
    rintro e w2 ⟨rfl, rfl⟩
    go_wp2_with (first
      | (go_at_call 13; refine (unhide KS).mono ?_; rintro e w3 ⟨rfl, rfl⟩)
      | (at_builtin; refine wpList_append_run 22 rfl _ _ rfl _ _ _ rfl rfl (unhide R3) ?_))
    go_ret3
    exact ⟨.inr ⟨by trivial, _, _, ret_three (by omega), (unhide h3o).1⟩, (unhide h3o).2⟩

/-- **The document's Unframe.** -/
theorem refUnframe_any (a : Option Addr) (len cap : Nat) (zs : List Int) (at' : Int) (w : World) (hr : Row w.heap.size w a len cap zs) :
    Calls Tryd.prog 17 #[.slice a len cap, .int .i64 at'] w fun e w' => UnAns w w' e at' (zs.drop at'.toNat) (unE zs at') ∧ Below w.heap.size w w' := by
  have hlen := hr.1
  unfold unE
  by_cases h1 : at' < 0
  · rw [if_pos h1]
    refine (refUnframe_out a len cap at' w (.inl h1) hr.2.2.1.1).mono ?_
    rintro e w' ⟨rfl, rfl⟩
    exact ⟨.inl ⟨by omega, rfl⟩, Below.refl _ _⟩
  rw [if_neg h1]
  by_cases h2 : (zs.length : Int) < at'
  · rw [if_pos h2]
    refine (refUnframe_out a len cap at' w (.inr (by omega)) hr.2.2.1.1).mono ?_
    rintro e w' ⟨rfl, rfl⟩
    exact ⟨.inl ⟨by omega, rfl⟩, Below.refl _ _⟩
  rw [if_neg h2]
  obtain ⟨at0, rfl⟩ := Int.eq_ofNat_of_zero_le (by omega : 0 ≤ at')
  rw [Int.toNat_natCast]
  exact refUnframe_in a len cap zs at0 w hr (by omega)

end Go.Proofs.YtleknpgkghkekaaDoor
