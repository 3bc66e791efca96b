/- Joined: GNum, GRenew, GRoom, GSame, RefSum. -/
import Derived.Test.YtdkicniciciobaaGreatDoorOkJ1
/- Plain facts on bytes as numbers. -/
namespace Go.Proofs.YtdkicniciciobaaGreatDoor
open Go.RowKit Go.Shelf
set_option linter.unusedVariables false

def num : List Int → Int
  | [] => 0
  | c :: r => c + 256 * num r

def digits : Nat → Int → List Int
  | 0, _ => []
  | k + 1, v => v % 256 :: digits k (v / 256)

def horn (l : List Int) : Int := l.foldl (fun v c => v * 256 + c) 0

theorem horn_snoc (l : List Int) (c : Int) : horn (l ++ [c]) = horn l * 256 + c := by simp [horn]

theorem horn_reverse (l : List Int) : horn l.reverse = num l := by
  induction l with
  | nil => rfl
  | cons c r ih => rw [List.reverse_cons, horn_snoc, ih, num]; omega

theorem num_digits (k : Nat) : ∀ v : Int, 0 ≤ v → v < 256 ^ k → num (digits k v) = v := by
  induction k with
  | zero => intro v h1 h2; simp [digits, num] at *; omega
  | succ k ih =>
    intro v h1 h2
    have : v / 256 < 256 ^ k := by rw [Int.pow_succ] at h2; omega
    rw [digits, num, ih _ (by omega) this]; omega

theorem length_digits (k : Nat) : ∀ v, (digits k v).length = k := by
  induction k with
  | zero => intro v; rfl
  | succ k ih => intro v; simp [digits, ih]

theorem digits_byte (k : Nat) : ∀ v, ∀ z ∈ digits k v, 0 ≤ z ∧ z ≤ 255 := by
  induction k with
  | zero => intro v z h; simp [digits] at h
  | succ k ih =>
    intro v z h
    rcases List.mem_cons.1 h with rfl | h
    · omega
    · exact ih _ _ h

theorem num_bound (l : List Int) (h : ∀ z ∈ l, 0 ≤ z ∧ z ≤ 255) : 0 ≤ num l ∧ num l < 256 ^ l.length := by
  induction l with
  | nil => simp [num]
  | cons c r ih =>
    have h1 := ih (fun z hz => h z (by simp [hz]))
    have h2 := h c (by simp)
    simp only [num, List.length_cons, Int.pow_succ]
    omega

theorem horn_bound (l : List Int) (h : ∀ z ∈ l, 0 ≤ z ∧ z ≤ 255) : 0 ≤ horn l ∧ horn l < 256 ^ l.length := by
  have := num_bound l.reverse (by simpa using h)
  rw [← horn_reverse, List.reverse_reverse, List.length_reverse] at this
  exact this

theorem nat_or_byte (x c : Nat) (hc : c < 256) : x * 256 ||| c = x * 256 + c := nat_join 8 (x * 256) c (by omega) (by omega)

theorem or_byte (v c : Int) (h1 : 0 ≤ v) (h2 : v < 16777216) (h3 : 0 ≤ c) (h4 : c ≤ 255) : bits .or .i64 (v * 256) c = v * 256 + c := by
  obtain ⟨x, rfl⟩ := Int.eq_ofNat_of_zero_le h1
  obtain ⟨y, rfl⟩ := Int.eq_ofNat_of_zero_le h3
  have e1 : (BitVec.ofInt 64 ((x : Int) * 256)).toNat = x * 256 := by
    have : ((x : Int) * 256) = ((x * 256 : Nat) : Int) := by omega
    rw [this]; exact ofInt_u64 _ (by omega)
  have e2 : (BitVec.ofInt 64 (y : Int)).toNat = y := ofInt_u64 _ (by omega)
  have e3 : x * 256 ||| y = x * 256 + y := nat_or_byte x y (by omega)
  show IntKind.i64.wrap ((BitVec.ofInt 64 ((x : Int) * 256) ||| BitVec.ofInt 64 (y : Int)).toNat : Int) = _
  rw [BitVec.toNat_or, e1, e2, e3]; simp only [IntKind.wrap, IntKind.bits, IntKind.signed]; simp
  omega

end Go.Proofs.YtdkicniciciobaaGreatDoor

/- The contract of field.renew. -/
namespace Go.Proofs.YtdkicniciciobaaGreatDoor
open Go.RowKit Go.Shelf
set_option linter.unusedVariables false

set_option maxRecDepth 100000 in
set_option maxHeartbeats 1000000 in
theorem renew_any (a : Option Addr) (len cap : Nat) (zs : List Int) (w : World) (hr : Row w.heap.size w a len cap zs) :
    Calls Tryz.prog 248 #[.slice a len cap] w fun e w' => e = .returned (.slice (some ⟨w.heap.size, 0, none⟩) len len) ∧ Block w' w.heap.size zs ∧ Below w.heap.size w w' := by
  obtain ⟨hlen, hlc, hcm, hby, hcell⟩ := hr
  have hmk := run_make_row' (P := Tryz.prog) 49 5 (.int .u8 0) 1 Tryz.underlying49 info5 rfl .i64 .i64 len (by omega) (by omega)
  have hb0 : Below w.heap.size w (w.alloc (.cells (madeCells #[.int .u8 0] len) 5)) := (Below.refl _ w).alloc (Nat.le_refl _) _
  have hsrc : 0 < len → ∃ ad, a = some ad ∧ ∀ (j : Nat) v, (zs.map (Value.int .u8))[j]? = some v → (w.alloc (.cells (madeCells #[.int .u8 0] len) 5)).cell? (ad.add j) = some v := by
    intro hp
    obtain ⟨b, off, rfl, hb, hc⟩ := hcell hp
    refine ⟨_, rfl, fun j v hv => ?_⟩
    rw [World.add_zero_spot, hb0.cell (p := ⟨b, off + j, none⟩) hb]
    have hj : j < zs.length := by
      have := (List.getElem?_eq_some_iff.1 hv).1
      simpa using this
    rw [hc j (by omega)]
    rw [List.getElem?_map, List.getElem?_eq_getElem hj] at hv
    rw [List.getElem?_eq_getElem hj]
    simpa using hv
  have hg : (w.alloc (.cells (madeCells #[.int .u8 0] len) 5)).heap[w.heap.size]? = some (.cells (List.replicate len (Value.int .u8 0)).toArray 5 (0, 0)) := by
    rw [World.alloc_heap_new, ← toList_madeCells_one, Array.toArray_toList]
  obtain ⟨w2, hcp, hg2, hb2⟩ : ∃ w2, (∀ ty, (Builtin.copy_ #[49, 49] ty #[.slice (some ⟨w.heap.size, 0, none⟩) len len, .slice a len cap]).run Tryz.prog (w.alloc (.cells (madeCells #[.int .u8 0] len) 5)) = .ok (goInt len) w2) ∧ Block w2 w.heap.size zs ∧ Below w.heap.size w w2 := by
    by_cases h0 : len = 0
    · subst h0
      have hz : zs = [] := List.eq_nil_of_length_eq_zero hlen
      subst hz
      exact ⟨_, fun ty => run_copy_none _ 49 49 ty 5 _ _ _ _ _ _ Tryz.underlying49 size5 rfl, hg, hb0⟩
    · obtain ⟨ad, rfl, hs⟩ := hsrc (by omega)
      refine ⟨_, fun ty => ?_, ?_, below_setRow hb0 (Nat.le_refl _) (zs.map (Value.int .u8)).toArray⟩
      · have h := run_copy_row (P := Tryz.prog) (w.alloc (.cells (madeCells #[.int .u8 0] len) 5)) 49 49 ty 5 w.heap.size 0 len len ad len cap _ 5 (zs.map (Value.int .u8)) Tryz.underlying49 size5 hg (by rw [List.length_map, hlen]; exact (Nat.min_self _).symm) hs (by simp [hlen]) (oneCell_bytes zs)
        have e : (List.take 0 (List.replicate len (Value.int .u8 0)).toArray.toList ++ zs.map (Value.int .u8) ++ List.drop (0 + (zs.map (Value.int .u8)).length) (List.replicate len (Value.int .u8 0)).toArray.toList) = zs.map (Value.int .u8) := by
          simp [hlen]
        rw [e, List.length_map, hlen] at h
        exact h
      · exact setRow_heap _ _ _ _ 5 _ hg
  clear hg hsrc hcell
  go_enter Tryz.func248, Tryz.ntmps248
  go_wp2
  go_ret
  exact ⟨rfl, hg2, hb2⟩

theorem renew_at (a : Option Addr) (len cap : Nat) (zs : List Int) (w : World) (n : Nat) (hn : w.heap.size = n) (hr : Row w.heap.size w a len cap zs) :
    Calls Tryz.prog 248 #[.slice a len cap] w fun e w' => e = .returned (.slice (some ⟨n, 0, none⟩) len len) ∧ Hid (Block w' n zs) ∧ Below n w w' := by
  subst hn; exact renew_any a len cap zs w hr

end Go.Proofs.YtdkicniciciobaaGreatDoor

/- Contracts of skerryref01.Roomy and skerryref01.Kept. -/
namespace Go.Proofs.YtdkicniciciobaaGreatDoor
open Go.RowKit Go.Shelf
set_option linter.unusedVariables false
set_option maxRecDepth 100000

def rm (zs : List Int) (k : Nat) : List Int := zs ++ (List.replicate k 165 ++ List.replicate (4 - k) 0)

theorem rm_length (zs : List Int) (k : Nat) (hk : k ≤ 4) : (rm zs k).length = zs.length + 4 := by simp [rm]; omega

theorem rm_succ (zs : List Int) (k : Nat) (hk : k < 4) : rm zs (k + 1) = (rm zs k).set (zs.length + k) 165 := by
  unfold rm
  rw [List.set_append_right _ _ (by omega), Nat.add_sub_cancel_left]
  have : k = 0 ∨ k = 1 ∨ k = 2 ∨ k = 3 := by omega
  rcases this with rfl | rfl | rfl | rfl <;> rfl

theorem rm_mark (zs : List Int) (q : Nat) (hq : q < 4) : (rm zs 4)[zs.length + q]?.getD 0 = 165 := by
  unfold rm
  rw [List.getElem?_append_right (by omega), Nat.add_sub_cancel_left]
  have : q = 0 ∨ q = 1 ∨ q = 2 ∨ q = 3 := by omega
  rcases this with rfl | rfl | rfl | rfl <;> rfl

theorem rm_take (zs : List Int) : (rm zs 4).take zs.length = zs := by simp [rm]

set_option maxRecDepth 100000 in
set_option maxHeartbeats 1000000 in
theorem roomy_any (a : Option Addr) (len cap : Nat) (zs : List Int) (w : World) (hr : Row w.heap.size w a len cap zs) :
    Calls Tryz.prog 38 #[.slice a len cap] w fun e w' => e = .returned (.slice (some ⟨w.heap.size, 0, none⟩) len (len + 4)) ∧ Block w' w.heap.size (rm zs 4) ∧ Below w.heap.size w w' := by
  obtain ⟨hlen, hlc, hcm, hby, hcell⟩ := hr
  obtain ⟨i0, hi, hz0, hz1, hz2⟩ := info_parts info5
  have hmk : ∀ w : World, (Instr.makeSlice 49 (.int .i64 (len : Int)) (.int .i64 ((len : Int) + 4))).run Tryz.prog w = .ok (.slice (some ⟨w.heap.size, 0, none⟩) len (len + 4)) (w.alloc (.cells (madeCells #[.int .u8 0] (len + 4)) 5)) := by
    intro w
    have h := run_make (P := Tryz.prog) w 49 5 i0 (.int .u8 0) Tryz.underlying49 hi hz0 .i64 .i64 (len : Int) ((len : Int) + 4) (by omega) (by omega) (by rw [hz2]; omega) (by omega)
    have e1 : (len : Int).toNat = len := by omega
    have e2 : ((len : Int) + 4).toNat = len + 4 := by omega
    rw [e1, e2, hz1, Nat.mul_one] at h
    exact h
  have hb0 : Below w.heap.size w (w.alloc (.cells (madeCells #[.int .u8 0] (len + 4)) 5)) := (Below.refl _ w).alloc (Nat.le_refl _) _
  have hg : (w.alloc (.cells (madeCells #[.int .u8 0] (len + 4)) 5)).heap[w.heap.size]? = some (.cells (List.replicate (len + 4) (Value.int .u8 0)).toArray 5 (0, 0)) := by
    rw [World.alloc_heap_new, ← toList_madeCells_one, Array.toArray_toList]
  have hsrc : 0 < len → ∃ ad, a = some ad ∧ ∀ (j : Nat) v, (zs.map (Value.int .u8))[j]? = some v → (w.alloc (.cells (madeCells #[.int .u8 0] (len + 4)) 5)).cell? (ad.add j) = some v := by
    intro hp
    obtain ⟨b, off, rfl, hb, hc⟩ := hcell hp
    refine ⟨_, rfl, fun j v hv => ?_⟩
    rw [World.add_zero_spot, hb0.cell (p := ⟨b, off + j, none⟩) hb]
    have hj : j < zs.length := by
      have := (List.getElem?_eq_some_iff.1 hv).1
      simpa using this
    rw [hc j (by omega)]
    rw [List.getElem?_map, List.getElem?_eq_getElem hj] at hv
    rw [List.getElem?_eq_getElem hj]
    simpa using hv
  have hrm0 : (rm zs 0).map (Value.int .u8) = zs.map (Value.int .u8) ++ List.replicate 4 (Value.int .u8 0) := by simp [rm]
  obtain ⟨w2, hcp, hg2, hb2⟩ : ∃ w2, (∀ ty, (Builtin.copy_ #[49, 49] ty #[.slice (some ⟨w.heap.size, 0, none⟩) len (len + 4), .slice a len cap]).run Tryz.prog (w.alloc (.cells (madeCells #[.int .u8 0] (len + 4)) 5)) = .ok (goInt len) w2) ∧ Block w2 w.heap.size (rm zs 0) ∧ Below w.heap.size w w2 := by
    by_cases h0 : len = 0
    · subst h0
      have hz : zs = [] := List.eq_nil_of_length_eq_zero hlen
      subst hz
      refine ⟨_, fun ty => run_copy_none _ 49 49 ty 5 _ _ _ _ _ _ Tryz.underlying49 size5 rfl, ?_, hb0⟩
      unfold Block
      rw [hg, hrm0]
      rfl
    · obtain ⟨ad, rfl, hs⟩ := hsrc (by omega)
      have h := fun ty => run_copy_row (P := Tryz.prog) (w.alloc (.cells (madeCells #[.int .u8 0] (len + 4)) 5)) 49 49 ty 5 w.heap.size 0 len (len + 4) ad len cap _ 5 (zs.map (Value.int .u8)) Tryz.underlying49 size5 hg (by rw [List.length_map, hlen]; exact (Nat.min_self _).symm) hs (by simp [hlen]) (oneCell_bytes zs)
      have e : (List.take 0 (List.replicate (len + 4) (Value.int .u8 0)).toArray.toList ++ zs.map (Value.int .u8) ++ List.drop (0 + (zs.map (Value.int .u8)).length) (List.replicate (len + 4) (Value.int .u8 0)).toArray.toList) = (rm zs 0).map (Value.int .u8) := by
        rw [hrm0]
        simp [hlen]
      refine ⟨_, fun ty => ?_, ?_, below_setRow hb0 (Nat.le_refl _) ((rm zs 0).map (Value.int .u8)).toArray⟩
      · have h' := h ty
        rw [e, List.length_map, hlen] at h'
        exact h'
      · exact setRow_heap _ _ _ _ 5 _ hg
  have HB := hide hg2
  clear hg hsrc hcell hg2 hrm0 hi hz0 hz1 hz2
  go_enter Tryz.func38, Tryz.ntmps38
  go_wp2
  go_loopw [5] (fun i wr => ∃ k : Nat, k ≤ 4 ∧ i = .int .i64 ((len + k : Nat) : Int) ∧ Hid (Block wr w.heap.size (rm zs k)) ∧ Below w.heap.size w wr) (fun i _ => len + 4 - (intOf i).toNat)
  case atStart => exact ⟨0, by omega, rfl, HB, hb2⟩
  case round =>
    obtain ⟨k, hk, rfl, hBk, hbr⟩ := hrel
    clear HB hcp hmk hb2 hb0
    by_cases hlt : k < 4
    · have hcg := (unhide hBk).cell (i := len + k) (by rw [rm_length _ _ hk]; omega)
      have hfg := (unhide hBk).free (len + k)
      have HS : Hid (Block (wr.setCell ⟨w.heap.size, len + k, none⟩ (.int .u8 165)) w.heap.size (rm zs (k + 1))) := by
        have := (unhide hBk).set (len + k) 165
        rw [← hlen, ← rm_succ zs k hlt, hlen] at this
        exact this
      obtain ⟨v0, hv0⟩ : ∃ v0, (rm zs k)[len + k]?.getD 0 = v0 := ⟨_, rfl⟩
      rw [hv0] at hcg
      clear hv0
      go_wp2
      exact ⟨⟨k + 1, by omega, by go_num, HS, hbr.setCell (p := ⟨w.heap.size, len + k, none⟩) (Nat.le_refl _) _⟩, by simp [intOf]; omega⟩
    · obtain rfl : k = 4 := by omega
      go_wp2
      go_ret
      exact ⟨rfl, unhide hBk, hbr⟩

set_option maxRecDepth 100000 in
set_option maxHeartbeats 1000000 in
theorem kept_any (g : Nat) (a : Option Addr) (len cap : Nat) (zs : List Int) (w : World) (hl : len ≤ 140737488351232) (hB : Block w g (rm zs 4)) (hb : Has w a len zs) :
    Calls Tryz.prog 39 #[.slice (some ⟨g, 0, none⟩) len (len + 4), .slice a len cap] w fun e w' => e = .returned (.bool true) ∧ Below w.heap.size w w' := by
  have hlen := hb.1
  have hH : Has w (some ⟨g, 0, none⟩) (len + 4) (rm zs 4) := hB.has (by rw [rm_length _ _ (Nat.le_refl _), hlen])
  obtain ⟨a3, c3, hs3, hc3, hH3⟩ := cut_h hH (cap := len + 4) (k := len) (Nat.le_refl _) (by omega)
  have e : (rm zs 4).take len = zs := by rw [← hlen]; exact rm_take zs
  rw [e] at hH3
  have hcv1 : ∀ n, (convert 49 9 (.slice a3 len c3)).run Tryz.prog (w.drewN n) = .ok (.string (strOfNums zs)) (w.drewN n) := fun n => (hH3.drewN n).conv c3
  have hcv2 : ∀ n, (convert 49 9 (.slice a len cap)).run Tryz.prog (w.drewN n) = .ok (.string (strOfNums zs)) (w.drewN n) := fun n => (hb.drewN n).conv cap
  have HC : Hid (∀ q, q < 4 → w.cell? ⟨g, len + q, none⟩ = some (.int .u8 165)) := by
    intro q hq
    have := hB.cell (i := len + q) (by rw [rm_length _ _ (Nat.le_refl _)]; omega)
    rw [← hlen, rm_mark zs q hq, hlen] at this
    exact this
  clear hB hb hH hH3 e hc3
  go_enter Tryz.func39, Tryz.ntmps39
  go_wp2
  go_loop [6] (fun i => ∃ k : Nat, k ≤ 4 ∧ i = .int .i64 ((len + k : Nat) : Int)) (fun i => len + 4 - (intOf i).toNat)
  case atStart => exact ⟨0, by omega, rfl⟩
  case round =>
    obtain ⟨k, hk, rfl⟩ := hrel
    by_cases hlt : k < 4
    · have hcg := unhide HC k hlt
      clear hcv1 hcv2 hs3
      go_wp2
      exact ⟨⟨k + 1, by omega, by go_num⟩, by simp [intOf]; omega⟩
    · obtain rfl : k = 4 := by omega
      go_wp2
      go_quiet (fail)
      go_wp2
      go_ret
      exact ⟨rfl, below_drewN (Below.refl _ _) _⟩

theorem room_row {w : World} {g len : Nat} {zs : List Int} (h : Block w g (rm zs 4)) (hlen : zs.length = len) (hl : len ≤ 140737488351232) (hby : ∀ z ∈ zs, 0 ≤ z ∧ z ≤ 255) : Row w.heap.size w (some ⟨g, 0, none⟩) len (len + 4) zs := by
  refine ⟨hlen, by omega, ⟨hl, by omega⟩, hby, fun _ => ⟨g, 0, rfl, h.lt, fun j hj => ?_⟩⟩
  rw [Nat.zero_add, h.cell (by rw [rm_length _ _ (Nat.le_refl _)]; omega)]
  unfold rm
  rw [List.getElem?_append_left (by omega)]

end Go.Proofs.YtdkicniciciobaaGreatDoor

/- The contract of skerryref01.SameBytes. -/
namespace Go.Proofs.YtdkicniciciobaaGreatDoor
open Go.RowKit Go.Shelf
set_option linter.unusedVariables false

set_option maxRecDepth 100000 in
set_option maxHeartbeats 400000 in
theorem same_true (a1 a2 : Option Addr) (l c1 c2 : Nat) (zs : List Int) (w : World) (h1 : Has w a1 l zs) (h2 : Has w a2 l zs) :
    Calls Tryz.prog 22 #[.slice a1 l c1, .slice a2 l c2] w fun e w' => e = .returned (.bool true) ∧ w = w' := by
  have e1 := h1.conv c1
  have e2 := h2.conv c2
  clear h1 h2
  go_enter Tryz.func22, Tryz.ntmps22
  go_wp2
  go_ret
  exact ⟨by simp, rfl⟩

end Go.Proofs.YtdkicniciciobaaGreatDoor

/- The contracts of the document's step, Sum and Add. -/
namespace Go.Proofs.YtdkicniciciobaaGreatDoor
open Go.RowKit Go.Shelf
set_option linter.unusedVariables false
set_option maxRecDepth 100000

end Go.Proofs.YtdkicniciciobaaGreatDoor

