/- Contract of codec.lay. -/
import Derived.Test.YtknmgefpjdfenaaGreatTnGI
import Derived.Test.YtknmgefpjdfenaaGreatTnGApp
namespace Go.Proofs.YtknmgefpjdfenaaGreat
open Go.RowKit Go.Shelf
set_option linter.unusedVariables false

theorem make_blockC (w : World) (n : Nat) : Block (w.alloc (.cells (madeCells #[.int .u8 0] n) 5)) w.heap.size (List.replicate n 0) := by
  show (w.alloc _).heap[w.heap.size]? = _
  rw [World.alloc_heap_new, List.map_replicate, ← toList_madeCells_one, Array.toArray_toList]

/-- copy(out[at:], part), where the part has room. -/
theorem copy_at {w : World} {g size at0 : Nat} {xs : List Int} (hB : Block w g xs) (hx : xs.length = size) {a2 : Option Addr} {n : Nat} {ys : List Int} (h : Has w a2 n ys) (c2 : Nat) (hfit : at0 + n ≤ size) :
    ∃ w2, (∀ ty, (Builtin.copy_ #[34, 34] ty #[.slice (cutAt (some ⟨g, 0, none⟩) size at0) (size - at0) (size - at0), .slice a2 n c2]).run Tryz.prog w = .ok (goInt n) w2) ∧ Block w2 g (put xs at0 ys) ∧ ∀ B, B ≤ g → Below B w w2 := by
  have hlen := h.1
  by_cases h0 : n = 0
  · subst h0
    obtain rfl : ys = [] := List.eq_nil_of_length_eq_zero hlen
    refine ⟨w, fun ty => run_copy_none _ 34 34 ty 5 _ _ _ _ _ _ Tryz.underlying34 size5 (Nat.min_eq_left (Nat.zero_le _)), ?_, fun B _ => Below.refl _ _⟩
    have : put xs at0 [] = xs := by simp [put]
    rw [this]; exact hB
  · obtain ⟨b, off, rfl, hc⟩ := h.2 (by omega)
    have hcut : cutAt (some ⟨g, 0, none⟩) size at0 = some ⟨g, at0, none⟩ := by
      unfold cutAt
      rw [if_neg (by omega), Option.map_some, Nat.mul_one, World.add_zero_spot, Nat.zero_add]
    have hs : ∀ (j : Nat) v, (ys.map (Value.int .u8))[j]? = some v → w.cell? ((⟨b, off, none⟩ : Addr).add j) = some v := by
      intro j v hv
      have hj : j < ys.length := by
        have := (List.getElem?_eq_some_iff.1 hv).1
        simpa using this
      rw [World.add_zero_spot, hc j (by omega)]
      rw [List.getElem?_map, List.getElem?_eq_getElem hj] at hv
      rw [List.getElem?_eq_getElem hj]
      simpa using hv
    have hm : (ys.map (Value.int .u8)).length = Nat.min n (size - at0) := by rw [List.length_map, hlen]; exact (Nat.min_eq_left (by omega)).symm
    have hp : ((xs.map (Value.int .u8)).take at0 ++ ys.map (Value.int .u8) ++ (xs.map (Value.int .u8)).drop (at0 + (ys.map (Value.int .u8)).length)) = (put xs at0 ys).map (Value.int .u8) := by
      simp [put, List.map_take, List.map_drop]
    refine ⟨w.setRow g ((put xs at0 ys).map (Value.int .u8)).toArray, fun ty => ?_, setRow_heap w g _ _ 5 _ hB, fun B hBg => below_setRow (Below.refl _ _) hBg _⟩
    have hr := run_copy_row (P := Tryz.prog) w 34 34 ty 5 g at0 (size - at0) (size - at0) ⟨b, off, none⟩ n c2 _ 5 (ys.map (Value.int .u8)) Tryz.underlying34 size5 hB hm hs (by simp [hlen, hx]; omega) (oneCell_bytes ys)
    rw [List.toList_toArray, hp, List.length_map, hlen] at hr
    rw [hcut]
    exact hr

/-- So many bytes: these ones, and bytes 0 behind them. -/
def layB (size : Nat) (L : List Int) : List Int := L ++ List.replicate (size - L.length) 0

theorem length_layB {size : Nat} {L : List Int} (h : L.length ≤ size) : (layB size L).length = size := by simp [layB]; omega

theorem layB_put (size : Nat) (L z : List Int) (h : L.length + z.length ≤ size) : put (layB size L) L.length z = layB size (L ++ z) := by
  simp only [put, layB, List.take_left, List.length_append]
  have e1 : (L ++ List.replicate (size - L.length) 0).drop (L.length + z.length) = List.replicate (size - (L.length + z.length)) (0 : Int) := by
    rw [List.drop_append, List.drop_of_length_le (by omega), List.nil_append, List.drop_replicate]
    congr 1; omega
  rw [e1]

theorem layB_byte (size : Nat) (L : List Int) (h : ∀ z ∈ L, 0 ≤ z ∧ z ≤ 255) : ∀ z ∈ layB size L, 0 ≤ z ∧ z ≤ 255 := by
  intro z hz
  rcases List.mem_append.1 hz with hz | hz
  · exact h z hz
  · simp at hz; omega

/-- A part: its slice, and the bytes that it has. -/
abbrev Prt := Option Addr × Nat × Nat × List Int

abbrev pv (p : Prt) : Value := .slice p.1 p.2.1 p.2.2.1

/-- A slice has these parts. -/
def PHas (w : World) (a : Option Addr) (n : Nat) (ps : List Prt) : Prop :=
  ps.length = n ∧ (0 < n → ∃ b off, a = some ⟨b, off, none⟩ ∧ b < w.heap.size ∧ ∀ j, (hj : j < ps.length) → w.cell? ⟨b, off + j, none⟩ = some (pv ps[j])) ∧ ∀ p ∈ ps, Has w p.1 p.2.1 p.2.2.2

theorem Has.lt {w : World} {a : Option Addr} {len : Nat} {zs : List Int} (h : Has w a len zs) {b off : Nat} (hp : 0 < len) (e : a = some ⟨b, off, none⟩) : b < w.heap.size := by
  obtain ⟨b', off', e', hc⟩ := h.2 hp
  rw [e] at e'
  cases e'
  exact cell_block_lt (hc 0 hp)

theorem Has.later {w w' : World} {a : Option Addr} {len : Nat} {zs : List Int} (h : Has w a len zs) (hb : Below w.heap.size w w') : Has w' a len zs := by
  refine ⟨h.1, fun hp => ?_⟩
  obtain ⟨b, off, e, hc⟩ := h.2 hp
  exact ⟨b, off, e, fun j hj => (hb.cell (p := ⟨b, off + j, none⟩) (h.lt hp e)).trans (hc j hj)⟩

theorem PHas.later {w w' : World} {a : Option Addr} {n : Nat} {ps : List Prt} (h : PHas w a n ps) (hb : Below w.heap.size w w') : PHas w' a n ps := by
  obtain ⟨h1, h2, h3⟩ := h
  refine ⟨h1, fun hp => ?_, fun p hp => (h3 p hp).later hb⟩
  obtain ⟨b, off, e, hlt, hc⟩ := h2 hp
  exact ⟨b, off, e, Nat.lt_of_lt_of_le hlt hb.size, fun j hj => (hb.cell (p := ⟨b, off + j, none⟩) hlt).trans (hc j hj)⟩

/-- The parts' bytes, one behind the other. -/
def allP (ps : List Prt) : List Int := (ps.map (fun p => p.2.2.2)).flatten

theorem allP_succ (ps : List Prt) (k : Nat) (hk : k < ps.length) : allP (ps.take (k + 1)) = allP (ps.take k) ++ ps[k].2.2.2 := by
  rw [allP, List.take_succ_eq_append_getElem hk, List.map_append, List.flatten_append]
  simp only [allP, List.map_cons, List.map_nil, List.flatten_cons, List.flatten_nil, List.append_nil]

theorem allP_take_le (ps : List Prt) (k : Nat) : (allP (ps.take k)).length ≤ (allP ps).length := by
  have : allP ps = allP (ps.take k) ++ allP (ps.drop k) := by
    simp only [allP]
    rw [← List.flatten_append, ← List.map_append, List.take_append_drop]
  rw [this, List.length_append]; omega

end Go.Proofs.YtknmgefpjdfenaaGreat
