/- The contracts of follow, Sum and Add. -/
import Derived.Test.YtmdkcoenjadieaaDoorWGBase
import Derived.Test.YtmdkcoenjadieaaDoorWSum
namespace Go.Proofs.YtmdkcoenjadieaaDoor
open Go.RowKit Go.Shelf
set_option linter.unusedVariables false

/-- The table lies where the program looks it up. -/
def Tab (w : World) : Prop := ∀ k, k < 16 → w.cell? ⟨0, k, none⟩ = some (.int .u32 ((tab k : Nat) : Int))

theorem look (w : World) (hT : Tab w) (X : Nat) (hX : X < 4294967296) : ∃ r t Y : Nat, r < 16 ∧ w.cell? ⟨0, r, none⟩ = some (.int .u32 (t : Int)) ∧ bits .and .u32 (X : Int) 15 = (r : Int) ∧ bits .xor .u32 ((X : Int) / 16) (t : Int) = (Y : Int) ∧ Y < 4294967296 ∧ Hid (Y = st4 X) := by
  refine ⟨X % 16, tab (X % 16), st4 X, by omega, hT _ (by omega), ?_, ?_, st4_lt hX, rfl⟩
  · have := u32_and_nat X 15 hX (by omega)
    rw [nat_mask4] at this
    exact this
  · rw [st4_look]
    have := u32_xor_nat (X / 16) (tab (X % 16)) (by omega) (tab_lt _)
    rw [← this]
    congr 1

set_option maxHeartbeats 1000000 in
theorem follow_some (b off len cap : Nat) (zs : List Int) (s : Nat) (w : World) (hs : s < 4294967296) (hT : Tab w) (hlen : zs.length = len) (hl : len ≤ 140737488355328) (hby : Byts zs)
    (hcs : ∀ j, j < len → w.cell? ⟨b, off + j, none⟩ = some (.int .u8 (zs[j]?.getD 0))) :
    Calls Tryd.prog 77 #[.int .u32 (s : Int), .slice (some ⟨b, off, none⟩) len cap] w fun e w' => e = .returned (.int .u32 ((addS s zs : Nat) : Int)) ∧ w = w' := by
  obtain ⟨c0, hc0, hs1, hx0⟩ : ∃ c0 : Nat, Hid (s ^^^ 4294967295 = c0) ∧ c0 < 4294967296 ∧ bits .xor .u32 (s : Int) 4294967295 = (c0 : Int) := ⟨_, rfl, lt_xor hs (by omega), u32_xor_nat s 4294967295 hs (by omega)⟩
  have HE : Hid (addS s zs = fol c0 zs ^^^ 4294967295) := by unfold addS; rw [hc0.out]; rfl
  have HT := hide hT
  have HB := hide hby
  have HC := hide hcs
  clear hc0 hT hby hcs
  go_enter Tryd.func77, Tryd.ntmps77
  go_wp2
  go_loop [5, 12] (fun c i => ∃ k : Nat, k ≤ len ∧ i = .int .i64 (k : Int) ∧ c = .int .u32 ((fol c0 (zs.take k) : Nat) : Int)) (fun _ i => len - (intOf i).toNat)
  case atStart => exact ⟨0, Nat.zero_le _, rfl, rfl⟩
  case round =>
    obtain ⟨k, hk, rfl, rfl⟩ := hrel
    have hC : fol c0 (zs.take k) < 4294967296 := fol_lt (fun z hz => HB.out z (List.mem_of_mem_take hz)) hs1
    by_cases hlt : k < len
    · have hz := HB.out (zs[k]?.getD 0) (by rw [List.getElem?_eq_getElem (by omega)]; exact List.getElem_mem _)
      have HS := hide (fol_succ c0 zs k (by omega))
      have hck := HC.out k hlt
      generalize fol c0 (zs.take k) = C at *
      generalize zs[k]?.getD 0 = xi at *
      obtain ⟨x, rfl⟩ := Int.eq_ofNat_of_zero_le hz.1
      have hx1 : (x : Int) % 4294967296 = x := by omega
      obtain ⟨X, hXe, hX, h1⟩ : ∃ X : Nat, Hid (X = C ^^^ x) ∧ X < 4294967296 ∧ bits .xor .u32 (C : Int) (x : Int) = (X : Int) := ⟨_, rfl, lt_xor hC (by omega), u32_xor_nat C x hC (by omega)⟩
      obtain ⟨r, t, Y, hr, ht, h2, h3, hY, hYe⟩ := look w HT.out X hX
      obtain ⟨r', t', Z, hr', ht', h2', h3', hZ, hZe⟩ := look w HT.out Y hY
      have HF : Hid (fol c0 (zs.take (k + 1)) = Z) := by
        show _ = _
        rw [HS.out, hZe.out, hYe.out, hXe.out]
        rfl
      clear hXe hYe hZe HS
      go_wp2
      exact ⟨⟨k + 1, by omega, by go_num, by rw [HF.out]⟩, by simp [intOf]; omega⟩
    · have hX := u32_xor_nat (fol c0 (zs.take k)) 4294967295 hC (by omega)
      have HX := hide hX
      obtain rfl : k = len := by omega
      clear hX
      go_wp2
      go_ret
      refine ⟨?_, rfl⟩
      rw [HE.out]
      refine ret_int ?_
      have HX' := HX.out
      have e : zs.take k = zs := List.take_of_length_le (by omega)
      rw [e] at HX' ⊢
      exact HX'

set_option maxHeartbeats 1000000 in
theorem follow_none (a : Option Addr) (cap : Nat) (s : Nat) (w : World) (hs : s < 4294967296) :
    Calls Tryd.prog 77 #[.int .u32 (s : Int), .slice a 0 cap] w fun e w' => e = .returned (.int .u32 ((addS s [] : Nat) : Int)) ∧ w = w' := by
  obtain ⟨c0, hc0, hs1, hx0⟩ : ∃ c0 : Nat, Hid (s ^^^ 4294967295 = c0) ∧ c0 < 4294967296 ∧ bits .xor .u32 (s : Int) 4294967295 = (c0 : Int) := ⟨_, rfl, lt_xor hs (by omega), u32_xor_nat s 4294967295 hs (by omega)⟩
  have HE : Hid (addS s [] = c0 ^^^ 4294967295) := by unfold addS; rw [hc0.out]; rfl
  have hX := u32_xor_nat c0 4294967295 hs1 (by omega)
  have HX := hide hX
  clear hc0 hX
  go_enter Tryd.func77, Tryd.ntmps77
  go_wp2
  go_loop [5, 12] (fun c i => i = .int .i64 0 ∧ c = .int .u32 (c0 : Int)) (fun _ i => 0 - (intOf i).toNat)
  case atStart => exact ⟨rfl, rfl⟩
  case round =>
    obtain ⟨rfl, rfl⟩ := hrel
    go_wp2
    go_ret
    refine ⟨?_, rfl⟩
    rw [HE.out]
    exact ret_int HX.out

theorem follow_any (a : Option Addr) (len cap : Nat) (zs : List Int) (s : Nat) (w : World) (hs : s < 4294967296) (hT : Tab w) (hh : Has w a len zs) (hl : len ≤ 140737488355328) (hby : Byts zs) :
    Calls Tryd.prog 77 #[.int .u32 (s : Int), .slice a len cap] w fun e w' => e = .returned (.int .u32 ((addS s zs : Nat) : Int)) ∧ w = w' := by
  by_cases h0 : len = 0
  · subst h0
    obtain rfl : zs = [] := List.eq_nil_of_length_eq_zero hh.1
    exact follow_none a cap s w hs
  · obtain ⟨b, off, rfl, hc⟩ := hh.2 (by omega)
    exact follow_some b off len cap zs s w hs hT hh.1 hl hby hc

set_option maxHeartbeats 1000000 in
/-- Sum. -/
theorem sum_any (a : Option Addr) (len cap : Nat) (zs : List Int) (w : World) (hT : Tab w) (hh : Has w a len zs) (hl : len ≤ 140737488355328) (hby : Byts zs) :
    Calls Tryd.prog 54 #[.slice a len cap] w fun e w' => e = .returned (.int .i64 ((sumS zs : Nat) : Int)) ∧ w = w' := by
  have hlt := sumS_lt hby
  have K : Hid (Calls Tryd.prog 77 #[.int .u32 0, .slice a len cap] w fun e w' => e = .returned (.int .u32 ((sumS zs : Nat) : Int)) ∧ w = w') := by
    have := follow_any a len cap zs 0 w (by omega) hT hh hl hby
    rw [addS_zero] at this
    exact this
  generalize sumS zs = S at *
  clear hT hh hby
  go_enter Tryd.func54, Tryd.ntmps54
  go_wp2_with (go_at_call 77; refine (unhide K).mono ?_; rintro e w' ⟨rfl, rfl⟩)
  go_ret
  exact ⟨ret_int (by first | rfl | omega), rfl⟩

/-- What Add answers. -/
def addV (s : Int) (zs : List Int) : Int := if s < 0 ∨ 4294967295 < s then 0 else ((addS s.toNat zs : Nat) : Int)

def addE (s : Int) : Int := if s < 0 ∨ 4294967295 < s then 3 else 0

end Go.Proofs.YtmdkcoenjadieaaDoor
