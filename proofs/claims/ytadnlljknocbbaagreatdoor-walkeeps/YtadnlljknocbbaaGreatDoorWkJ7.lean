/- Joined: GRoom, GSame, RefSum. -/
import Derived.Test.YtadnlljknocbbaaGreatDoorWkJ1
import Derived.Test.YtadnlljknocbbaaGreatDoorWkJ2
/- Contracts of skerryref01.Roomy and skerryref01.Kept. -/
namespace Go.Proofs.YtadnlljknocbbaaGreatDoor
open Go.RowKit Go.Shelf
set_option linter.unusedVariables false
set_option maxRecDepth 100000

/-- The bytes, k marks behind them, and room for the rest of four. -/
def rm (zs : List Int) (k : Nat) : List Int := zs ++ (List.replicate k 165 ++ List.replicate (4 - k) 0)

theorem rm_length (zs : List Int) (k : Nat) (hk : k ≤ 4) : (rm zs k).length = zs.length + 4 := by simp [rm]; omega

theorem rm_succ (zs : List Int) (k : Nat) (hk : k < 4) : rm zs (k + 1) = (rm zs k).set (zs.length + k) 165 := by
  unfold rm
  rw [List.set_append_right _ _ (by omega), Nat.add_sub_cancel_left]
  have : k = 0 ∨ k = 1 ∨ k = 2 ∨ k = 3 := by omega
  rcases this with rfl | rfl | rfl | rfl <;> rfl

theorem rm_mark (zs : List Int) (q : Nat) (hq : q < 4) : (rm zs 4)[zs.length + q]?.getD 0 = 165 := by
  unfold rm
  rw [List.getElem?_append_right (by omega), Nat.add_sub_cancel_left]
  have : q = 0 ∨ q = 1 ∨ q = 2 ∨ q = 3 := by omega
  rcases this with rfl | rfl | rfl | rfl <;> rfl

theorem rm_take (zs : List Int) : (rm zs 4).take zs.length = zs := by simp [rm]

theorem rm_byte (zs : List Int) (h : ∀ z ∈ zs, 0 ≤ z ∧ z ≤ 255) : ∀ z ∈ rm zs 4, 0 ≤ z ∧ z ≤ 255 := by
  intro z hz
  rcases List.mem_append.1 hz with hz | hz
  · exact h z hz
  · simp at hz; omega

set_option maxRecDepth 100000 in
set_option maxHeartbeats 1000000 in
theorem roomy_any (a : Option Addr) (len cap : Nat) (zs : List Int) (w : World) (hr : Row w.heap.size w a len cap zs) :
    Calls Tryz.prog 43 #[.slice a len cap] w fun e w' => e = .returned (.slice (some ⟨w.heap.size, 0, none⟩) len (len + 4)) ∧ Block w' w.heap.size (rm zs 4) ∧ Below w.heap.size w w' := by
  obtain ⟨hlen, hlc, hcm, hby, hcell⟩ := hr
  obtain ⟨i0, hi, hz0, hz1, hz2⟩ := info_parts info5
  have hmk : ∀ w : World, (Instr.makeSlice 50 (.int .i64 (len : Int)) (.int .i64 ((len : Int) + 4))).run Tryz.prog w = .ok (.slice (some ⟨w.heap.size, 0, none⟩) len (len + 4)) (w.alloc (.cells (madeCells #[.int .u8 0] (len + 4)) 5)) := by
    intro w
    have h := run_make (P := Tryz.prog) w 50 5 i0 (.int .u8 0) Tryz.underlying50 hi hz0 .i64 .i64 (len : Int) ((len : Int) + 4) (by omega) (by omega) (by rw [hz2]; omega) (by omega)
    have e1 : (len : Int).toNat = len := by omega
    have e2 : ((len : Int) + 4).toNat = len + 4 := by omega
    rw [e1, e2, hz1, Nat.mul_one] at h
    exact h
  have hb0 : Below w.heap.size w (w.alloc (.cells (madeCells #[.int .u8 0] (len + 4)) 5)) := (Below.refl _ w).alloc (Nat.le_refl _) _
  have hg : (w.alloc (.cells (madeCells #[.int .u8 0] (len + 4)) 5)).heap[w.heap.size]? = some (.cells (List.replicate (len + 4) (Value.int .u8 0)).toArray 5 (0, 0)) := by
    rw [World.alloc_heap_new, ← toList_madeCells_one, Array.toArray_toList]
  have hsrc : 0 < len → ∃ ad, a = some ad ∧ ∀ (j : Nat) v, (zs.map (Value.int .u8))[j]? = some v → (w.alloc (.cells (madeCells #[.int .u8 0] (len + 4)) 5)).cell? (ad.add j) = some v := by
    intro hp
    obtain ⟨b, off, rfl, hb, hc⟩ := hcell hp
    refine ⟨_, rfl, fun j v hv => ?_⟩
    rw [World.add_zero_spot, hb0.cell (p := ⟨b, off + j, none⟩) hb]
    have hj : j < zs.length := by
      have := (List.getElem?_eq_some_iff.1 hv).1
      simpa using this
    rw [hc j (by omega)]
    rw [List.getElem?_map, List.getElem?_eq_getElem hj] at hv
    rw [List.getElem?_eq_getElem hj]
    simpa using hv
  have hrm0 : (rm zs 0).map (Value.int .u8) = zs.map (Value.int .u8) ++ List.replicate 4 (Value.int .u8 0) := by simp [rm]
  obtain ⟨w2, hcp, hg2, hb2⟩ : ∃ w2, (∀ ty, (Builtin.copy_ #[50, 50] ty #[.slice (some ⟨w.heap.size, 0, none⟩) len (len + 4), .slice a len cap]).run Tryz.prog (w.alloc (.cells (madeCells #[.int .u8 0] (len + 4)) 5)) = .ok (goInt len) w2) ∧ Block w2 w.heap.size (rm zs 0) ∧ Below w.heap.size w w2 := by
    by_cases h0 : len = 0
    · subst h0
      have hz : zs = [] := List.eq_nil_of_length_eq_zero hlen
      subst hz
      refine ⟨_, fun ty => run_copy_none _ 50 50 ty 5 _ _ _ _ _ _ Tryz.underlying50 size5 rfl, ?_, hb0⟩
      unfold Block
      rw [hg, hrm0]
      rfl
    · obtain ⟨ad, rfl, hs⟩ := hsrc (by omega)
      have h := fun ty => run_copy_row (P := Tryz.prog) (w.alloc (.cells (madeCells #[.int .u8 0] (len + 4)) 5)) 50 50 ty 5 w.heap.size 0 len (len + 4) ad len cap _ 5 (zs.map (Value.int .u8)) Tryz.underlying50 size5 hg (by rw [List.length_map, hlen]; exact (Nat.min_self _).symm) hs (by simp [hlen]) (oneCell_bytes zs)
      have e : (List.take 0 (List.replicate (len + 4) (Value.int .u8 0)).toArray.toList ++ zs.map (Value.int .u8) ++ List.drop (0 + (zs.map (Value.int .u8)).length) (List.replicate (len + 4) (Value.int .u8 0)).toArray.toList) = (rm zs 0).map (Value.int .u8) := by
        rw [hrm0]
        simp [hlen]
      refine ⟨_, fun ty => ?_, ?_, below_setRow hb0 (Nat.le_refl _) ((rm zs 0).map (Value.int .u8)).toArray⟩
      · have h' := h ty
        rw [e, List.length_map, hlen] at h'
        exact h'
      · exact setRow_heap _ _ _ _ 5 _ hg
  have HB := hide hg2
  clear hg hsrc hcell hg2 hrm0 hi hz0 hz1 hz2
  go_enter Tryz.func43, Tryz.ntmps43
  go_wp2
  go_loopw [5] (fun i wr => ∃ k : Nat, k ≤ 4 ∧ i = .int .i64 ((len + k : Nat) : Int) ∧ Hid (Block wr w.heap.size (rm zs k)) ∧ Below w.heap.size w wr) (fun i _ => len + 4 - (intOf i).toNat)
  case atStart => exact ⟨0, by omega, rfl, HB, hb2⟩
  case round =>
    obtain ⟨k, hk, rfl, hBk, hbr⟩ := hrel
    clear HB hcp hmk hb2 hb0
    by_cases hlt : k < 4
    · have hcg := (unhide hBk).cell (i := len + k) (by rw [rm_length _ _ hk]; omega)
      have hfg := (unhide hBk).free (len + k)
      have HS : Hid (Block (wr.setCell ⟨w.heap.size, len + k, none⟩ (.int .u8 165)) w.heap.size (rm zs (k + 1))) := by
        have := (unhide hBk).set (len + k) 165
        rw [← hlen, ← rm_succ zs k hlt, hlen] at this
        exact this
      obtain ⟨v0, hv0⟩ : ∃ v0, (rm zs k)[len + k]?.getD 0 = v0 := ⟨_, rfl⟩
      rw [hv0] at hcg
      clear hv0
      go_wp2
      exact ⟨⟨k + 1, by omega, by go_num, HS, hbr.setCell (p := ⟨w.heap.size, len + k, none⟩) (Nat.le_refl _) _⟩, by simp [intOf]; omega⟩
    · obtain rfl : k = 4 := by omega
      go_wp2
      go_ret
      exact ⟨rfl, unhide hBk, hbr⟩

set_option maxRecDepth 100000 in
set_option maxHeartbeats 1000000 in
theorem kept_any (g : Nat) (a : Option Addr) (len cap : Nat) (zs : List Int) (w : World) (hl : len ≤ 140737488351232) (hB : Block w g (rm zs 4)) (hb : Has w a len zs) :
    Calls Tryz.prog 44 #[.slice (some ⟨g, 0, none⟩) len (len + 4), .slice a len cap] w fun e w' => e = .returned (.bool true) ∧ Below w.heap.size w w' := by
  have hlen := hb.1
  have hH : Has w (some ⟨g, 0, none⟩) (len + 4) (rm zs 4) := hB.has (by rw [rm_length _ _ (Nat.le_refl _), hlen])
  obtain ⟨a3, c3, hs3, hc3, hH3⟩ := cut_h hH (cap := len + 4) (k := len) (Nat.le_refl _) (by omega)
  have e : (rm zs 4).take len = zs := by rw [← hlen]; exact rm_take zs
  rw [e] at hH3
  have hcv1 : ∀ n, (convert 50 9 (.slice a3 len c3)).run Tryz.prog (w.drewN n) = .ok (.string (strOfNums zs)) (w.drewN n) := fun n => (hH3.drewN n).conv c3
  have hcv2 : ∀ n, (convert 50 9 (.slice a len cap)).run Tryz.prog (w.drewN n) = .ok (.string (strOfNums zs)) (w.drewN n) := fun n => (hb.drewN n).conv cap
  have HC : Hid (∀ q, q < 4 → w.cell? ⟨g, len + q, none⟩ = some (.int .u8 165)) := by
    intro q hq
    have := hB.cell (i := len + q) (by rw [rm_length _ _ (Nat.le_refl _)]; omega)
    rw [← hlen, rm_mark zs q hq, hlen] at this
    exact this
  clear hB hb hH hH3 e hc3
  go_enter Tryz.func44, Tryz.ntmps44
  go_wp2
  go_loop [6] (fun i => ∃ k : Nat, k ≤ 4 ∧ i = .int .i64 ((len + k : Nat) : Int)) (fun i => len + 4 - (intOf i).toNat)
  case atStart => exact ⟨0, by omega, rfl⟩
  case round =>
    obtain ⟨k, hk, rfl⟩ := hrel
    by_cases hlt : k < 4
    · have hcg := unhide HC k hlt
      clear hcv1 hcv2 hs3
      go_wp2
      exact ⟨⟨k + 1, by omega, by go_num⟩, by simp [intOf]; omega⟩
    · obtain rfl : k = 4 := by omega
      go_wp2
      go_quiet (fail)
      go_wp2
      go_ret
      exact ⟨rfl, below_drewN (Below.refl _ _) _⟩

/-- A roomy copy is a slice of the bytes. -/
theorem room_row {w : World} {g len : Nat} {zs : List Int} (h : Block w g (rm zs 4)) (hlen : zs.length = len) (hl : len ≤ 140737488351232) (hby : ∀ z ∈ zs, 0 ≤ z ∧ z ≤ 255) : Row w.heap.size w (some ⟨g, 0, none⟩) len (len + 4) zs := by
  refine ⟨hlen, by omega, ⟨hl, by omega⟩, hby, fun _ => ⟨g, 0, rfl, h.lt, fun j hj => ?_⟩⟩
  rw [Nat.zero_add, h.cell (by rw [rm_length _ _ (Nat.le_refl _)]; omega)]
  unfold rm
  rw [List.getElem?_append_left (by omega)]

end Go.Proofs.YtadnlljknocbbaaGreatDoor

/- The contract of skerryref01.SameBytes. -/
namespace Go.Proofs.YtadnlljknocbbaaGreatDoor
open Go.RowKit Go.Shelf
set_option linter.unusedVariables false

set_option maxRecDepth 100000 in
set_option maxHeartbeats 400000 in
theorem same_true (a1 a2 : Option Addr) (l c1 c2 : Nat) (zs : List Int) (w : World) (h1 : Has w a1 l zs) (h2 : Has w a2 l zs) :
    Calls Tryz.prog 45 #[.slice a1 l c1, .slice a2 l c2] w fun e w' => e = .returned (.bool true) ∧ w = w' := by
  have e1 := h1.conv c1
  have e2 := h2.conv c2
  clear h1 h2
  go_enter Tryz.func45, Tryz.ntmps45
  go_wp2
  go_ret
  exact ⟨by simp, rfl⟩

end Go.Proofs.YtadnlljknocbbaaGreatDoor

/- The contracts of the document's step, Sum and Add. -/
namespace Go.Proofs.YtadnlljknocbbaaGreatDoor
open Go.RowKit Go.Shelf
set_option linter.unusedVariables false
set_option maxRecDepth 100000

theorem i64_xor_nat (a b : Nat) (ha : a < 9223372036854775808) (hb : b < 9223372036854775808) : bits .xor .i64 (a : Int) (b : Int) = ((a ^^^ b : Nat) : Int) := by
  have hx : a ^^^ b < 2 ^ 63 := Nat.xor_lt_two_pow (by omega) (by omega)
  show IntKind.i64.wrap ((BitVec.ofInt 64 (a : Int) ^^^ BitVec.ofInt 64 (b : Int)).toNat : Int) = _
  rw [BitVec.toNat_xor, ofInt_u64 a (by omega), ofInt_u64 b (by omega), IntKind.wrap_i64]
  omega

/-- Some steps. -/
def sts : Nat → Nat → Nat
  | 0, c => c
  | n + 1, c => st (sts n c)

theorem sts_lt (n : Nat) {c : Nat} (h : c < 4294967296) : sts n c < 4294967296 := by
  induction n with
  | zero => exact h
  | succ n ih => exact st_lt ih

theorem sts_eight (c : Nat) : sts 8 c = st4 (st4 c) := rfl

theorem st_odd {c : Nat} (h : c % 2 = 1) : st c = c / 2 ^^^ 3988292384 := by unfold st; rw [if_pos h]

theorem st_not_odd {c : Nat} (h : ¬ c % 2 = 1) : st c = c / 2 := by unfold st; rw [if_neg h, Nat.xor_zero]

set_option maxHeartbeats 1000000 in
theorem step_any (c x : Nat) (w : World) (hc : c < 4294967296) (hx : x < 256) :
    Calls Tryz.prog 117 #[.int .i64 (c : Int), .int .u8 (x : Int)] w fun e w' => e = .returned (.int .i64 ((upd c x : Nat) : Int)) ∧ w = w' := by
  obtain ⟨X, hXe, hX, h1⟩ : ∃ X : Nat, Hid (X = c ^^^ x) ∧ X < 4294967296 ∧ bits .xor .i64 (c : Int) (x : Int) = (X : Int) := ⟨_, rfl, lt_xor hc (by omega), i64_xor_nat c x (by omega) (by omega)⟩
  have HE : Hid (upd c x = sts 8 X) := by show _ = _; rw [hXe.out, sts_eight]; rfl
  clear hXe
  go_enter Tryz.func117, Tryz.ntmps117
  go_wp2
  go_loop [0, 5] (fun c i => ∃ k : Nat, k ≤ 8 ∧ i = .int .i64 (k : Int) ∧ c = .int .i64 ((sts k X : Nat) : Int)) (fun _ i => 8 - (intOf i).toNat)
  case atStart => exact ⟨0, Nat.zero_le _, rfl, rfl⟩
  case round =>
    obtain ⟨k, hk, rfl, rfl⟩ := hrel
    have hC := sts_lt k hX
    by_cases hlt : k < 8
    · by_cases ho : sts k X % 2 = 1
      · have HS : Hid (sts (k + 1) X = sts k X / 2 ^^^ 3988292384) := st_odd ho
        have ho' : ((sts k X : Nat) : Int) % 2 = 1 := by omega
        have h3 := i64_xor_nat (sts k X / 2) 3988292384 (by omega) (by omega)
        have h3' : bits .xor .i64 (((sts k X : Nat) : Int) / 2) 3988292384 = ((sts k X / 2 ^^^ 3988292384 : Nat) : Int) := by rw [← h3]; congr 1
        generalize sts k X = C at *
        generalize C / 2 ^^^ 3988292384 = D at *
        clear h3 ho
        go_wp2
        exact ⟨⟨k + 1, by omega, by go_num, by rw [HS.out]⟩, by simp [intOf]; omega⟩
      · have HS : Hid (sts (k + 1) X = sts k X / 2) := st_not_odd ho
        have ho' : ((sts k X : Nat) : Int) % 2 = 0 := by omega
        generalize sts k X = C at *
        clear ho
        go_wp2
        exact ⟨⟨k + 1, by omega, by go_num, val_int (by rw [HS.out]; omega)⟩, by simp [intOf]; omega⟩
    · obtain rfl : k = 8 := by omega
      go_wp2
      go_ret
      exact ⟨ret_int (by rw [HE.out]), rfl⟩

set_option maxHeartbeats 1000000 in
theorem refSum_some (b off len cap : Nat) (zs : List Int) (w : World) (hlen : zs.length = len) (hl : len ≤ 140737488355328) (hby : Byts zs)
    (hcs : ∀ j, j < len → w.cell? ⟨b, off + j, none⟩ = some (.int .u8 (zs[j]?.getD 0))) :
    Calls Tryz.prog 91 #[.slice (some ⟨b, off, none⟩) len cap] w fun e w' => e = .returned (.int .i64 ((sumS zs : Nat) : Int)) ∧ w = w' := by
  have HE : Hid (sumS zs = fol 4294967295 zs ^^^ 4294967295) := rfl
  have HB := hide hby
  have HC := hide hcs
  clear hby hcs
  go_enter Tryz.func91, Tryz.ntmps91
  go_wp2
  go_loop [3, 4] (fun c i => ∃ k : Nat, k ≤ len ∧ i = .int .i64 (k : Int) ∧ c = .int .i64 ((fol 4294967295 (zs.take k) : Nat) : Int)) (fun _ i => len - (intOf i).toNat)
  case atStart => exact ⟨0, Nat.zero_le _, rfl, rfl⟩
  case round =>
    obtain ⟨k, hk, rfl, rfl⟩ := hrel
    have hC : fol 4294967295 (zs.take k) < 4294967296 := fol_lt (fun z hz => HB.out z (List.mem_of_mem_take hz)) (by omega)
    by_cases hlt : k < len
    · have hz := HB.out (zs[k]?.getD 0) (by rw [List.getElem?_eq_getElem (by omega)]; exact List.getElem_mem _)
      have HS := hide (fol_succ 4294967295 zs k (by omega))
      have hck := HC.out k hlt
      generalize fol 4294967295 (zs.take k) = C at *
      generalize zs[k]?.getD 0 = xi at *
      obtain ⟨x, rfl⟩ := Int.eq_ofNat_of_zero_le hz.1
      have K := hide (fun w => step_any C x w hC (by omega))
      go_wp2_with (go_at_call 117; refine (unhide K _).mono ?_; rintro e w' ⟨rfl, rfl⟩)
      exact ⟨⟨k + 1, by omega, by go_num, val_int (by rw [HS.out]; rfl)⟩, by simp [intOf]; omega⟩
    · have HX := hide (i64_xor_nat (fol 4294967295 (zs.take k)) 4294967295 (by omega) (by omega))
      obtain rfl : k = len := by omega
      go_wp2
      go_ret
      refine ⟨?_, rfl⟩
      rw [HE.out]
      refine ret_int ?_
      have HX' := HX.out
      have e : zs.take k = zs := List.take_of_length_le (by omega)
      rw [e] at HX' ⊢
      exact HX'

set_option maxHeartbeats 1000000 in
theorem refSum_none (a : Option Addr) (cap : Nat) (w : World) :
    Calls Tryz.prog 91 #[.slice a 0 cap] w fun e w' => e = .returned (.int .i64 ((sumS [] : Nat) : Int)) ∧ w = w' := by
  go_enter Tryz.func91, Tryz.ntmps91
  go_wp2
  go_loop [3, 4] (fun c i => i = .int .i64 0 ∧ c = .int .i64 4294967295) (fun _ i => 0 - (intOf i).toNat)
  case atStart => exact ⟨rfl, rfl⟩
  case round =>
    obtain ⟨rfl, rfl⟩ := hrel
    go_wp2
    go_ret
    exact ⟨ret_int (by decide +kernel), rfl⟩

theorem refSum_any (a : Option Addr) (len cap : Nat) (zs : List Int) (w : World) (hh : Has w a len zs) (hl : len ≤ 140737488355328) (hby : Byts zs) :
    Calls Tryz.prog 91 #[.slice a len cap] w fun e w' => e = .returned (.int .i64 ((sumS zs : Nat) : Int)) ∧ w = w' := by
  by_cases h0 : len = 0
  · subst h0
    obtain rfl : zs = [] := List.eq_nil_of_length_eq_zero hh.1
    exact refSum_none a cap w
  · obtain ⟨b, off, rfl, hc⟩ := hh.2 (by omega)
    exact refSum_some b off len cap zs w hh.1 hl hby hc

end Go.Proofs.YtadnlljknocbbaaGreatDoor

