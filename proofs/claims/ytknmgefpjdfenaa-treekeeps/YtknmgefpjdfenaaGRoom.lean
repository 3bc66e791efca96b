/- Contracts of skerryref01.Roomy and skerryref01.Kept. -/
import Derived.Test.YtknmgefpjdfenaaGBase
namespace Go.Proofs.Ytknmgefpjdfenaa
open Go.RowKit Go.Shelf
set_option linter.unusedVariables false
set_option maxRecDepth 100000

/-- The bytes, k marks behind them, and room for the rest of four. -/
def rm (zs : List Int) (k : Nat) : List Int := zs ++ (List.replicate k 165 ++ List.replicate (4 - k) 0)

theorem rm_length (zs : List Int) (k : Nat) (hk : k ≤ 4) : (rm zs k).length = zs.length + 4 := by simp [rm]; omega

theorem rm_succ (zs : List Int) (k : Nat) (hk : k < 4) : rm zs (k + 1) = (rm zs k).set (zs.length + k) 165 := by
  unfold rm
  rw [List.set_append_right _ _ (by omega), Nat.add_sub_cancel_left]
  have : k = 0 ∨ k = 1 ∨ k = 2 ∨ k = 3 := by omega
  rcases this with rfl | rfl | rfl | rfl <;> rfl

theorem rm_mark (zs : List Int) (q : Nat) (hq : q < 4) : (rm zs 4)[zs.length + q]?.getD 0 = 165 := by
  unfold rm
  rw [List.getElem?_append_right (by omega), Nat.add_sub_cancel_left]
  have : q = 0 ∨ q = 1 ∨ q = 2 ∨ q = 3 := by omega
  rcases this with rfl | rfl | rfl | rfl <;> rfl

theorem rm_take (zs : List Int) : (rm zs 4).take zs.length = zs := by simp [rm]

theorem rm_byte (zs : List Int) (h : ∀ z ∈ zs, 0 ≤ z ∧ z ≤ 255) : ∀ z ∈ rm zs 4, 0 ≤ z ∧ z ≤ 255 := by
  intro z hz
  rcases List.mem_append.1 hz with hz | hz
  · exact h z hz
  · simp at hz; omega

set_option maxRecDepth 100000 in
set_option maxHeartbeats 1000000 in
theorem roomy_any (a : Option Addr) (len cap : Nat) (zs : List Int) (w : World) (hr : Row w.heap.size w a len cap zs) :
    Calls Try.prog 8 #[.slice a len cap] w fun e w' => e = .returned (.slice (some ⟨w.heap.size, 0, none⟩) len (len + 4)) ∧ Block w' w.heap.size (rm zs 4) ∧ Below w.heap.size w w' := by
  obtain ⟨hlen, hlc, hcm, hby, hcell⟩ := hr
  obtain ⟨i0, hi, hz0, hz1, hz2⟩ := info_parts info5
  have hmk : ∀ w : World, (Instr.makeSlice 22 (.int .i64 (len : Int)) (.int .i64 ((len : Int) + 4))).run Try.prog w = .ok (.slice (some ⟨w.heap.size, 0, none⟩) len (len + 4)) (w.alloc (.cells (madeCells #[.int .u8 0] (len + 4)) 5)) := by
    intro w
    have h := run_make (P := Try.prog) w 22 5 i0 (.int .u8 0) Try.underlying22 hi hz0 .i64 .i64 (len : Int) ((len : Int) + 4) (by omega) (by omega) (by rw [hz2]; omega) (by omega)
    have e1 : (len : Int).toNat = len := by omega
    have e2 : ((len : Int) + 4).toNat = len + 4 := by omega
    rw [e1, e2, hz1, Nat.mul_one] at h
    exact h
  have hb0 : Below w.heap.size w (w.alloc (.cells (madeCells #[.int .u8 0] (len + 4)) 5)) := (Below.refl _ w).alloc (Nat.le_refl _) _
  have hg : (w.alloc (.cells (madeCells #[.int .u8 0] (len + 4)) 5)).heap[w.heap.size]? = some (.cells (List.replicate (len + 4) (Value.int .u8 0)).toArray 5 (0, 0)) := by
    rw [World.alloc_heap_new, ← toList_madeCells_one, Array.toArray_toList]
  have hsrc : 0 < len → ∃ ad, a = some ad ∧ ∀ (j : Nat) v, (zs.map (Value.int .u8))[j]? = some v → (w.alloc (.cells (madeCells #[.int .u8 0] (len + 4)) 5)).cell? (ad.add j) = some v := by
    intro hp
    obtain ⟨b, off, rfl, hb, hc⟩ := hcell hp
    refine ⟨_, rfl, fun j v hv => ?_⟩
    rw [World.add_zero_spot, hb0.cell (p := ⟨b, off + j, none⟩) hb]
    have hj : j < zs.length := by
      have := (List.getElem?_eq_some_iff.1 hv).1
      simpa using this
    rw [hc j (by omega)]
    rw [List.getElem?_map, List.getElem?_eq_getElem hj] at hv
    rw [List.getElem?_eq_getElem hj]
    simpa using hv
  have hrm0 : (rm zs 0).map (Value.int .u8) = zs.map (Value.int .u8) ++ List.replicate 4 (Value.int .u8 0) := by simp [rm]
  obtain ⟨w2, hcp, hg2, hb2⟩ : ∃ w2, (∀ ty, (Builtin.copy_ #[22, 22] ty #[.slice (some ⟨w.heap.size, 0, none⟩) len (len + 4), .slice a len cap]).run Try.prog (w.alloc (.cells (madeCells #[.int .u8 0] (len + 4)) 5)) = .ok (goInt len) w2) ∧ Block w2 w.heap.size (rm zs 0) ∧ Below w.heap.size w w2 := by
    by_cases h0 : len = 0
    · subst h0
      have hz : zs = [] := List.eq_nil_of_length_eq_zero hlen
      subst hz
      refine ⟨_, fun ty => run_copy_none _ 22 22 ty 5 _ _ _ _ _ _ Try.underlying22 size5 rfl, ?_, hb0⟩
      unfold Block
      rw [hg, hrm0]
      rfl
    · obtain ⟨ad, rfl, hs⟩ := hsrc (by omega)
      have h := fun ty => run_copy_row (P := Try.prog) (w.alloc (.cells (madeCells #[.int .u8 0] (len + 4)) 5)) 22 22 ty 5 w.heap.size 0 len (len + 4) ad len cap _ 5 (zs.map (Value.int .u8)) Try.underlying22 size5 hg (by rw [List.length_map, hlen]; exact (Nat.min_self _).symm) hs (by simp [hlen]) (oneCell_bytes zs)
      have e : (List.take 0 (List.replicate (len + 4) (Value.int .u8 0)).toArray.toList ++ zs.map (Value.int .u8) ++ List.drop (0 + (zs.map (Value.int .u8)).length) (List.replicate (len + 4) (Value.int .u8 0)).toArray.toList) = (rm zs 0).map (Value.int .u8) := by
        rw [hrm0]
        simp [hlen]
      refine ⟨_, fun ty => ?_, ?_, below_setRow hb0 (Nat.le_refl _) ((rm zs 0).map (Value.int .u8)).toArray⟩
      · have h' := h ty
        rw [e, List.length_map, hlen] at h'
        exact h'
      · exact setRow_heap _ _ _ _ 5 _ hg
  have HB := hide hg2
  clear hg hsrc hcell hg2 hrm0 hi hz0 hz1 hz2
  go_enter Try.func8, Try.ntmps8
  go_wp2
  go_loopw [5] (fun i wr => ∃ k : Nat, k ≤ 4 ∧ i = .int .i64 ((len + k : Nat) : Int) ∧ Hid (Block wr w.heap.size (rm zs k)) ∧ Below w.heap.size w wr) (fun i _ => len + 4 - (intOf i).toNat)
  case atStart => exact ⟨0, by omega, rfl, HB, hb2⟩
  case round =>
    obtain ⟨k, hk, rfl, hBk, hbr⟩ := hrel
    clear HB hcp hmk hb2 hb0
    by_cases hlt : k < 4
    · have hcg := (unhide hBk).cell (i := len + k) (by rw [rm_length _ _ hk]; omega)
      have hfg := (unhide hBk).free (len + k)
      have HS : Hid (Block (wr.setCell ⟨w.heap.size, len + k, none⟩ (.int .u8 165)) w.heap.size (rm zs (k + 1))) := by
        have := (unhide hBk).set (len + k) 165
        rw [← hlen, ← rm_succ zs k hlt, hlen] at this
        exact this
      obtain ⟨v0, hv0⟩ : ∃ v0, (rm zs k)[len + k]?.getD 0 = v0 := ⟨_, rfl⟩
      rw [hv0] at hcg
      clear hv0
      go_wp2
      exact ⟨⟨k + 1, by omega, by go_num, HS, hbr.setCell (p := ⟨w.heap.size, len + k, none⟩) (Nat.le_refl _) _⟩, by simp [intOf]; omega⟩
    · obtain rfl : k = 4 := by omega
      go_wp2
      go_ret
      exact ⟨rfl, unhide hBk, hbr⟩

set_option maxRecDepth 100000 in
set_option maxHeartbeats 1000000 in
theorem kept_any (g : Nat) (a : Option Addr) (len cap : Nat) (zs : List Int) (w : World) (hl : len ≤ 140737488351232) (hB : Block w g (rm zs 4)) (hb : Has w a len zs) :
    Calls Try.prog 10 #[.slice (some ⟨g, 0, none⟩) len (len + 4), .slice a len cap] w fun e w' => e = .returned (.bool true) ∧ Below w.heap.size w w' := by
  have hlen := hb.1
  have hH : Has w (some ⟨g, 0, none⟩) (len + 4) (rm zs 4) := hB.has (by rw [rm_length _ _ (Nat.le_refl _), hlen])
  obtain ⟨a3, c3, hs3, hc3, hH3⟩ := cut_h hH (cap := len + 4) (k := len) (Nat.le_refl _) (by omega)
  have e : (rm zs 4).take len = zs := by rw [← hlen]; exact rm_take zs
  rw [e] at hH3
  have hcv1 : ∀ n, (convert 22 9 (.slice a3 len c3)).run Try.prog (w.drewN n) = .ok (.string (strOfNums zs)) (w.drewN n) := fun n => (hH3.drewN n).conv c3
  have hcv2 : ∀ n, (convert 22 9 (.slice a len cap)).run Try.prog (w.drewN n) = .ok (.string (strOfNums zs)) (w.drewN n) := fun n => (hb.drewN n).conv cap
  have HC : Hid (∀ q, q < 4 → w.cell? ⟨g, len + q, none⟩ = some (.int .u8 165)) := by
    intro q hq
    have := hB.cell (i := len + q) (by rw [rm_length _ _ (Nat.le_refl _)]; omega)
    rw [← hlen, rm_mark zs q hq, hlen] at this
    exact this
  clear hB hb hH hH3 e hc3
  go_enter Try.func10, Try.ntmps10
  go_wp2
  go_loop [6] (fun i => ∃ k : Nat, k ≤ 4 ∧ i = .int .i64 ((len + k : Nat) : Int)) (fun i => len + 4 - (intOf i).toNat)
  case atStart => exact ⟨0, by omega, rfl⟩
  case round =>
    obtain ⟨k, hk, rfl⟩ := hrel
    by_cases hlt : k < 4
    · have hcg := unhide HC k hlt
      clear hcv1 hcv2 hs3
      go_wp2
      exact ⟨⟨k + 1, by omega, by go_num⟩, by simp [intOf]; omega⟩
    · obtain rfl : k = 4 := by omega
      go_wp2
      go_quiet (fail)
      go_wp2
      go_ret
      exact ⟨rfl, below_drewN (Below.refl _ _) _⟩

/-- A roomy copy is a slice of the bytes. -/
theorem room_row {w : World} {g len : Nat} {zs : List Int} (h : Block w g (rm zs 4)) (hlen : zs.length = len) (hl : len ≤ 140737488351232) (hby : ∀ z ∈ zs, 0 ≤ z ∧ z ≤ 255) : Row w.heap.size w (some ⟨g, 0, none⟩) len (len + 4) zs := by
  refine ⟨hlen, by omega, ⟨hl, by omega⟩, hby, fun _ => ⟨g, 0, rfl, h.lt, fun j hj => ?_⟩⟩
  rw [Nat.zero_add, h.cell (by rw [rm_length _ _ (Nat.le_refl _)]; omega)]
  unfold rm
  rw [List.getElem?_append_left (by omega)]

end Go.Proofs.Ytknmgefpjdfenaa
