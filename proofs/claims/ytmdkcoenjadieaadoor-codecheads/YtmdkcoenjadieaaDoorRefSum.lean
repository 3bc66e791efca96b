/- The contracts of the document's step, Sum and Add. -/
import Derived.Test.YtmdkcoenjadieaaDoorFol
namespace Go.Proofs.YtmdkcoenjadieaaDoor
open Go.RowKit Go.Shelf
set_option linter.unusedVariables false
set_option maxRecDepth 100000

theorem i64_xor_nat (a b : Nat) (ha : a < 9223372036854775808) (hb : b < 9223372036854775808) : bits .xor .i64 (a : Int) (b : Int) = ((a ^^^ b : Nat) : Int) := by
  have hx : a ^^^ b < 2 ^ 63 := Nat.xor_lt_two_pow (by omega) (by omega)
  show IntKind.i64.wrap ((BitVec.ofInt 64 (a : Int) ^^^ BitVec.ofInt 64 (b : Int)).toNat : Int) = _
  rw [BitVec.toNat_xor, ofInt_u64 a (by omega), ofInt_u64 b (by omega), IntKind.wrap_i64]
  omega

/-- Some steps. -/
def sts : Nat → Nat → Nat
  | 0, c => c
  | n + 1, c => st (sts n c)

theorem sts_lt (n : Nat) {c : Nat} (h : c < 4294967296) : sts n c < 4294967296 := by
  induction n with
  | zero => exact h
  | succ n ih => exact st_lt ih

theorem sts_eight (c : Nat) : sts 8 c = st4 (st4 c) := rfl

theorem st_odd {c : Nat} (h : c % 2 = 1) : st c = c / 2 ^^^ 3988292384 := by unfold st; rw [if_pos h]

theorem st_not_odd {c : Nat} (h : ¬ c % 2 = 1) : st c = c / 2 := by unfold st; rw [if_neg h, Nat.xor_zero]

set_option maxHeartbeats 1000000 in
theorem step_any (c x : Nat) (w : World) (hc : c < 4294967296) (hx : x < 256) :
    Calls Tryd.prog 72 #[.int .i64 (c : Int), .int .u8 (x : Int)] w fun e w' => e = .returned (.int .i64 ((upd c x : Nat) : Int)) ∧ w = w' := by
  obtain ⟨X, hXe, hX, h1⟩ : ∃ X : Nat, Hid (X = c ^^^ x) ∧ X < 4294967296 ∧ bits .xor .i64 (c : Int) (x : Int) = (X : Int) := ⟨_, rfl, lt_xor hc (by omega), i64_xor_nat c x (by omega) (by omega)⟩
  have HE : Hid (upd c x = sts 8 X) := by show _ = _; rw [hXe.out, sts_eight]; rfl
  clear hXe
  go_enter Tryd.func72, Tryd.ntmps72
  go_wp2
  go_loop [0, 5] (fun c i => ∃ k : Nat, k ≤ 8 ∧ i = .int .i64 (k : Int) ∧ c = .int .i64 ((sts k X : Nat) : Int)) (fun _ i => 8 - (intOf i).toNat)
  case atStart => exact ⟨0, Nat.zero_le _, rfl, rfl⟩
  case round =>
    obtain ⟨k, hk, rfl, rfl⟩ := hrel
    have hC := sts_lt k hX
    by_cases hlt : k < 8
    · by_cases ho : sts k X % 2 = 1
      · have HS : Hid (sts (k + 1) X = sts k X / 2 ^^^ 3988292384) := st_odd ho
        have ho' : ((sts k X : Nat) : Int) % 2 = 1 := by omega
        have h3 := i64_xor_nat (sts k X / 2) 3988292384 (by omega) (by omega)
        have h3' : bits .xor .i64 (((sts k X : Nat) : Int) / 2) 3988292384 = ((sts k X / 2 ^^^ 3988292384 : Nat) : Int) := by rw [← h3]; congr 1
        generalize sts k X = C at *
        generalize C / 2 ^^^ 3988292384 = D at *
        clear h3 ho
        go_wp2
        exact ⟨⟨k + 1, by omega, by go_num, by rw [HS.out]⟩, by simp [intOf]; omega⟩
      · have HS : Hid (sts (k + 1) X = sts k X / 2) := st_not_odd ho
        have ho' : ((sts k X : Nat) : Int) % 2 = 0 := by omega
        generalize sts k X = C at *
        clear ho
        go_wp2
        exact ⟨⟨k + 1, by omega, by go_num, val_int (by rw [HS.out]; omega)⟩, by simp [intOf]; omega⟩
    · obtain rfl : k = 8 := by omega
      go_wp2
      go_ret
      exact ⟨ret_int (by rw [HE.out]), rfl⟩

set_option maxHeartbeats 1000000 in
theorem refSum_some (b off len cap : Nat) (zs : List Int) (w : World) (hlen : zs.length = len) (hl : len ≤ 140737488355328) (hby : Byts zs)
    (hcs : ∀ j, j < len → w.cell? ⟨b, off + j, none⟩ = some (.int .u8 (zs[j]?.getD 0))) :
    Calls Tryd.prog 41 #[.slice (some ⟨b, off, none⟩) len cap] w fun e w' => e = .returned (.int .i64 ((sumS zs : Nat) : Int)) ∧ w = w' := by
  have HE : Hid (sumS zs = fol 4294967295 zs ^^^ 4294967295) := rfl
  have HB := hide hby
  have HC := hide hcs
  clear hby hcs
  go_enter Tryd.func41, Tryd.ntmps41
  go_wp2
  go_loop [3, 4] (fun c i => ∃ k : Nat, k ≤ len ∧ i = .int .i64 (k : Int) ∧ c = .int .i64 ((fol 4294967295 (zs.take k) : Nat) : Int)) (fun _ i => len - (intOf i).toNat)
  case atStart => exact ⟨0, Nat.zero_le _, rfl, rfl⟩
  case round =>
    obtain ⟨k, hk, rfl, rfl⟩ := hrel
    have hC : fol 4294967295 (zs.take k) < 4294967296 := fol_lt (fun z hz => HB.out z (List.mem_of_mem_take hz)) (by omega)
    by_cases hlt : k < len
    · have hz := HB.out (zs[k]?.getD 0) (by rw [List.getElem?_eq_getElem (by omega)]; exact List.getElem_mem _)
      have HS := hide (fol_succ 4294967295 zs k (by omega))
      have hck := HC.out k hlt
      generalize fol 4294967295 (zs.take k) = C at *
      generalize zs[k]?.getD 0 = xi at *
      obtain ⟨x, rfl⟩ := Int.eq_ofNat_of_zero_le hz.1
      have K := hide (fun w => step_any C x w hC (by omega))
      go_wp2_with (go_at_call 72; refine (unhide K _).mono ?_; rintro e w' ⟨rfl, rfl⟩)
      exact ⟨⟨k + 1, by omega, by go_num, val_int (by rw [HS.out]; rfl)⟩, by simp [intOf]; omega⟩
    · have HX := hide (i64_xor_nat (fol 4294967295 (zs.take k)) 4294967295 (by omega) (by omega))
      obtain rfl : k = len := by omega
      go_wp2
      go_ret
      refine ⟨?_, rfl⟩
      rw [HE.out]
      refine ret_int ?_
      have HX' := HX.out
      have e : zs.take k = zs := List.take_of_length_le (by omega)
      rw [e] at HX' ⊢
      exact HX'

set_option maxHeartbeats 1000000 in
theorem refSum_none (a : Option Addr) (cap : Nat) (w : World) :
    Calls Tryd.prog 41 #[.slice a 0 cap] w fun e w' => e = .returned (.int .i64 ((sumS [] : Nat) : Int)) ∧ w = w' := by
  go_enter Tryd.func41, Tryd.ntmps41
  go_wp2
  go_loop [3, 4] (fun c i => i = .int .i64 0 ∧ c = .int .i64 4294967295) (fun _ i => 0 - (intOf i).toNat)
  case atStart => exact ⟨rfl, rfl⟩
  case round =>
    obtain ⟨rfl, rfl⟩ := hrel
    go_wp2
    go_ret
    exact ⟨ret_int (by decide +kernel), rfl⟩

theorem refSum_any (a : Option Addr) (len cap : Nat) (zs : List Int) (w : World) (hh : Has w a len zs) (hl : len ≤ 140737488355328) (hby : Byts zs) :
    Calls Tryd.prog 41 #[.slice a len cap] w fun e w' => e = .returned (.int .i64 ((sumS zs : Nat) : Int)) ∧ w = w' := by
  by_cases h0 : len = 0
  · subst h0
    obtain rfl : zs = [] := List.eq_nil_of_length_eq_zero hh.1
    exact refSum_none a cap w
  · obtain ⟨b, off, rfl, hc⟩ := hh.2 (by omega)
    exact refSum_some b off len cap zs w hh.1 hl hby hc

end Go.Proofs.YtmdkcoenjadieaaDoor
