/- The contract of the document's Add, and CrcSums' walk. -/
import Derived.Test.YtleknpgkghkekaaDoorRefSum
import Derived.Test.YtleknpgkghkekaaDoorJoinsWalk
namespace Go.Proofs.YtleknpgkghkekaaDoor
open Go.RowKit Go.Shelf
set_option linter.unusedVariables false

theorem refAdd_bad (a : Option Addr) (len cap : Nat) (s : Int) (w : World) (h : s < 0 ∨ 4294967295 < s) :
    Calls Tryd.prog 11 #[.int .i64 s, .slice a len cap] w fun e w' => e = .returned (.tuple #[.int .i64 0, .int .i64 3]) ∧ w = w' := by
  by_cases h1 : s < 0
  · clear h
    go_enter Tryd.func11, Tryd.ntmps11
    go_wp2
    go_ret2
    exact ⟨rfl, rfl⟩
  · have h2 : 4294967295 < s := by omega
    clear h
    go_enter Tryd.func11, Tryd.ntmps11
    go_wp2
    go_ret2
    exact ⟨rfl, rfl⟩

set_option maxHeartbeats 1000000 in
theorem refAdd_some (b off len cap : Nat) (zs : List Int) (s : Nat) (w : World) (hs : s < 4294967296) (hlen : zs.length = len) (hl : len ≤ 140737488355328) (hby : Byts zs)
    (hcs : ∀ j, j < len → w.cell? ⟨b, off + j, none⟩ = some (.int .u8 (zs[j]?.getD 0))) :
    Calls Tryd.prog 11 #[.int .i64 (s : Int), .slice (some ⟨b, off, none⟩) len cap] w fun e w' => e = .returned (.tuple #[.int .i64 ((addS s zs : Nat) : Int), .int .i64 0]) ∧ w = w' := by
  obtain ⟨c0, hc0, hs1, hx0⟩ : ∃ c0 : Nat, Hid (s ^^^ 4294967295 = c0) ∧ c0 < 4294967296 ∧ bits .xor .i64 (s : Int) 4294967295 = (c0 : Int) := ⟨_, rfl, lt_xor hs (by omega), i64_xor_nat s 4294967295 (by omega) (by omega)⟩
  have HE : Hid (addS s zs = fol c0 zs ^^^ 4294967295) := by unfold addS; rw [hc0.out]; rfl
  have HB := hide hby
  have HC := hide hcs
  clear hc0 hby hcs
  go_enter Tryd.func11, Tryd.ntmps11
  go_wp2
  go_loop [6, 7] (fun c i => ∃ k : Nat, k ≤ len ∧ i = .int .i64 (k : Int) ∧ c = .int .i64 ((fol c0 (zs.take k) : Nat) : Int)) (fun _ i => len - (intOf i).toNat)
  case atStart => exact ⟨0, Nat.zero_le _, rfl, rfl⟩
  case round =>
    obtain ⟨k, hk, rfl, rfl⟩ := hrel
    have hC : fol c0 (zs.take k) < 4294967296 := fol_lt (fun z hz => HB.out z (List.mem_of_mem_take hz)) hs1
    by_cases hlt : k < len
    · have hz := HB.out (zs[k]?.getD 0) (by rw [List.getElem?_eq_getElem (by omega)]; exact List.getElem_mem _)
      have HS := hide (fol_succ c0 zs k (by omega))
      have hck := HC.out k hlt
      generalize fol c0 (zs.take k) = C at *
      generalize zs[k]?.getD 0 = xi at *
      obtain ⟨x, rfl⟩ := Int.eq_ofNat_of_zero_le hz.1
      have K := hide (fun w => step_any C x w hC (by omega))
      go_wp2_with (go_at_call 23; refine (unhide K _).mono ?_; rintro e w' ⟨rfl, rfl⟩)
      exact ⟨⟨k + 1, by omega, by go_num, val_int (by rw [HS.out]; rfl)⟩, by simp [intOf]; omega⟩
    · have HX := hide (i64_xor_nat (fol c0 (zs.take k)) 4294967295 (by omega) (by omega))
      obtain rfl : k = len := by omega
      go_wp2
      go_ret2
      refine ⟨?_, rfl⟩
      rw [HE.out]
      refine ret_two ?_ rfl
      have HX' := HX.out
      have e : zs.take k = zs := List.take_of_length_le (by omega)
      rw [e] at HX' ⊢
      exact HX'

set_option maxHeartbeats 1000000 in
theorem refAdd_none (a : Option Addr) (cap : Nat) (s : Nat) (w : World) (hs : s < 4294967296) :
    Calls Tryd.prog 11 #[.int .i64 (s : Int), .slice a 0 cap] w fun e w' => e = .returned (.tuple #[.int .i64 ((addS s [] : Nat) : Int), .int .i64 0]) ∧ w = w' := by
  obtain ⟨c0, hc0, hs1, hx0⟩ : ∃ c0 : Nat, Hid (s ^^^ 4294967295 = c0) ∧ c0 < 4294967296 ∧ bits .xor .i64 (s : Int) 4294967295 = (c0 : Int) := ⟨_, rfl, lt_xor hs (by omega), i64_xor_nat s 4294967295 (by omega) (by omega)⟩
  have HE : Hid (addS s [] = c0 ^^^ 4294967295) := by unfold addS; rw [hc0.out]; rfl
  have HX := hide (i64_xor_nat c0 4294967295 (by omega) (by omega))
  clear hc0
  go_enter Tryd.func11, Tryd.ntmps11
  go_wp2
  go_loop [6, 7] (fun c i => i = .int .i64 0 ∧ c = .int .i64 (c0 : Int)) (fun _ i => 0 - (intOf i).toNat)
  case atStart => exact ⟨rfl, rfl⟩
  case round =>
    obtain ⟨rfl, rfl⟩ := hrel
    go_wp2
    go_ret2
    refine ⟨?_, rfl⟩
    rw [HE.out]
    exact ret_two HX.out rfl

theorem refAdd_any (a : Option Addr) (len cap : Nat) (zs : List Int) (s : Int) (w : World) (hh : Has w a len zs) (hl : len ≤ 140737488355328) (hby : Byts zs) :
    Calls Tryd.prog 11 #[.int .i64 s, .slice a len cap] w fun e w' => e = .returned (.tuple #[.int .i64 (addV s zs), .int .i64 (addE s)]) ∧ w = w' := by
  by_cases h : s < 0 ∨ 4294967295 < s
  · have hv : addV s zs = 0 := if_pos h
    have he : addE s = 3 := if_pos h
    rw [hv, he]
    exact refAdd_bad a len cap s w h
  · obtain ⟨n, rfl⟩ := Int.eq_ofNat_of_zero_le (by omega : 0 ≤ s)
    rw [addV_nat n zs (by omega), addE_nat n (by omega)]
    by_cases h0 : len = 0
    · subst h0
      obtain rfl : zs = [] := List.eq_nil_of_length_eq_zero hh.1
      exact refAdd_none a cap n w (by omega)
    · obtain ⟨b, off, rfl, hc⟩ := hh.2 (by omega)
      exact refAdd_some b off len cap zs n w (by omega) hh.1 hl hby hc

set_option maxHeartbeats 1000000 in
theorem sums_walk (s : Int) (a : Option Addr) (len cap : Nat) (zs : List Int) (w : World) (hr : Row w.heap.size w a len cap zs) (hT : Tab w) :
    Calls Tryd.prog 3 #[.int .i64 s, .slice a len cap] w fun e w' => e = .returned (.bool true) ∧ Below w.heap.size w w' := by
  have hl := hr.2.2.1.1
  have hby := hr.byts
  have KW := hide (wakes_any w hT)
  have KA : Hid (∀ w1, Below w.heap.size w w1 → Calls Tryd.prog 10 #[.int .i64 s, .slice a len cap] w1 fun e w' => e = .returned (.tuple #[.int .i64 (addV s zs), .int .i64 (addE s)]) ∧ w1 = w') :=
    fun w1 hb => add_any a len cap zs s w1 (hT.below hb (tab_size hT)) (hr.below hb hb.size).has (by omega) hby
  have KR : Hid (∀ w1, Below w.heap.size w w1 → Calls Tryd.prog 11 #[.int .i64 s, .slice a len cap] w1 fun e w' => e = .returned (.tuple #[.int .i64 (addV s zs), .int .i64 (addE s)]) ∧ w1 = w') :=
    fun w1 hb => refAdd_any a len cap zs s w1 (hr.below hb hb.size).has (by omega) hby
  have KS : Hid (∀ w1, Below w.heap.size w w1 → Calls Tryd.prog 12 #[.slice a len cap] w1 fun e w' => e = .returned (.int .i64 ((sumS zs : Nat) : Int)) ∧ w1 = w') :=
    fun w1 hb => sum_any a len cap zs w1 (hT.below hb (tab_size hT)) (hr.below hb hb.size).has (by omega) hby
  have KT : Hid (∀ w1, Below w.heap.size w w1 → Calls Tryd.prog 13 #[.slice a len cap] w1 fun e w' => e = .returned (.int .i64 ((sumS zs : Nat) : Int)) ∧ w1 = w') :=
    fun w1 hb => refSum_any a len cap zs w1 (hr.below hb hb.size).has (by omega) hby
  generalize sumS zs = S at *
  generalize addV s zs = V at *
  generalize addE s = E at *
  clear hr hT hby
  go_enter Tryd.func3, Tryd.ntmps3
  go_wp2_with (first
    | (go_at_call 9; refine (unhide KW).mono ?_; rintro e w1 ⟨rfl, hb1⟩)
    | (go_at_call 10; refine (unhide KA _ hb1).mono ?_; rintro e w2 ⟨rfl, rfl⟩)
    | (go_at_call 11; refine (unhide KR _ hb1).mono ?_; rintro e w2 ⟨rfl, rfl⟩)
    | (go_at_call 12; refine (unhide KS _ hb1).mono ?_; rintro e w2 ⟨rfl, rfl⟩)
    | (go_at_call 13; refine (unhide KT _ hb1).mono ?_; rintro e w2 ⟨rfl, rfl⟩))
  go_ret
  exact ⟨rfl, hb1⟩

end Go.Proofs.YtleknpgkghkekaaDoor
