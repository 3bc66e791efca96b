/- The contract of Set. -/
import Derived.Test.YtdgddlgdmkkejaaBRead
import Derived.Test.YtdgddlgdmkkejaaGApp
import Derived.Test.YtdgddlgdmkkejaaGOpen
namespace Go.Proofs.Ytdgddlgdmkkejaa
open Go.RowKit Go.Shelf
set_option linter.unusedVariables false

theorem Has.lt {w : World} {a : Option Addr} {len : Nat} {zs : List Int} (h : Has w a len zs) {b off : Nat} (hp : 0 < len) (e : a = some ⟨b, off, none⟩) : b < w.heap.size := by
  obtain ⟨b', off', e', hc⟩ := h.2 hp
  rw [e] at e'
  cases e'
  exact cell_block_lt (hc 0 hp)

theorem Has.later {w w' : World} {a : Option Addr} {len : Nat} {zs : List Int} (h : Has w a len zs) (hb : Below w.heap.size w w') : Has w' a len zs := by
  refine ⟨h.1, fun hp => ?_⟩
  obtain ⟨b, off, e, hc⟩ := h.2 hp
  exact ⟨b, off, e, fun j hj => (hb.cell (p := ⟨b, off + j, none⟩) (h.lt hp e)).trans (hc j hj)⟩

/-- make([]byte, len), then copy. -/
theorem made_copy (a : Option Addr) (len cap : Nat) (zs : List Int) (w : World) (hh : Has w a len zs) :
    ∃ w2, (∀ ty, (Builtin.copy_ #[22, 22] ty #[.slice (some ⟨w.heap.size, 0, none⟩) len len, .slice a len cap]).run Try.prog (w.alloc (.cells (madeCells #[.int .u8 0] len) 5)) = .ok (goInt len) w2) ∧ Block w2 w.heap.size zs ∧ Below w.heap.size w w2 := by
  have hlen := hh.1
  have hb0 : Below w.heap.size w (w.alloc (.cells (madeCells #[.int .u8 0] len) 5)) := (Below.refl _ w).alloc (Nat.le_refl _) _
  have hg : (w.alloc (.cells (madeCells #[.int .u8 0] len) 5)).heap[w.heap.size]? = some (.cells (List.replicate len (Value.int .u8 0)).toArray 5 (0, 0)) := by
    rw [World.alloc_heap_new, ← toList_madeCells_one, Array.toArray_toList]
  by_cases h0 : len = 0
  · subst h0
    have hz : zs = [] := List.eq_nil_of_length_eq_zero hlen
    subst hz
    exact ⟨_, fun ty => run_copy_none _ 22 22 ty 5 _ _ _ _ _ _ Try.underlying22 size5 rfl, hg, hb0⟩
  · obtain ⟨b, off, rfl, hc⟩ := (hh.later hb0).2 (by omega)
    have hs : ∀ (j : Nat) v, (zs.map (Value.int .u8))[j]? = some v → (w.alloc (.cells (madeCells #[.int .u8 0] len) 5)).cell? ((⟨b, off, none⟩ : Addr).add j) = some v := by
      intro j v hv
      have hj : j < zs.length := by
        have := (List.getElem?_eq_some_iff.1 hv).1
        simpa using this
      rw [World.add_zero_spot, hc j (by omega)]
      rw [List.getElem?_map, List.getElem?_eq_getElem hj] at hv
      rw [List.getElem?_eq_getElem hj]
      simpa using hv
    refine ⟨_, fun ty => ?_, ?_, below_setRow hb0 (Nat.le_refl _) (zs.map (Value.int .u8)).toArray⟩
    · have h := run_copy_row (P := Try.prog) (w.alloc (.cells (madeCells #[.int .u8 0] len) 5)) 22 22 ty 5 w.heap.size 0 len len ⟨b, off, none⟩ len cap _ 5 (zs.map (Value.int .u8)) Try.underlying22 size5 hg (by rw [List.length_map, hlen]; exact (Nat.min_self _).symm) hs (by simp [hlen]) (oneCell_bytes zs)
      have e : (List.take 0 (List.replicate len (Value.int .u8 0)).toArray.toList ++ zs.map (Value.int .u8) ++ List.drop (0 + (zs.map (Value.int .u8)).length) (List.replicate len (Value.int .u8 0)).toArray.toList) = zs.map (Value.int .u8) := by
        simp [hlen]
      rw [e, List.length_map, hlen] at h
      exact h
    · exact setRow_heap _ _ _ _ 5 _ hg

set_option maxHeartbeats 4000000 in
theorem set_good (a : Option Addr) (len cap : Nat) (zs : List Int) (n : Nat) (on : Bool) (w : World) (hh : Has w a len zs) (hby : ∀ z ∈ zs, 0 ≤ z ∧ z ≤ 255) (hl : len ≤ 140737488351232) (hn : n < 8 * len) :
    Calls Try.prog 12 #[.slice a len cap, .int .i64 (n : Int), .bool on] w fun e w' => e = .returned (.tuple #[.slice (some ⟨w.heap.size, 0, none⟩) len len, .int .i64 0]) ∧ Hid (Block w' w.heap.size (setB zs n on)) ∧ Below w.heap.size w w' := by
  have K := hide (fun w => hasBit_any a len cap (n : Int) w (by omega))
  rw [inB_of hn] at K
  have hmk := run_make_row' (P := Try.prog) 22 5 (.int .u8 0) 1 Try.underlying22 info5 rfl .i64 .i64 len (by omega) (by omega)
  obtain ⟨w2, hcp, hB, hb⟩ := made_copy a len cap zs w hh
  have hlen := hh.1
  have hlt := byteN_lt hby (n / 8)
  have hck := hB.cell (i := n / 8) (by omega)
  have hfr := hB.free (n / 8)
  rw [← byteN_int hby] at hck
  have hr8 : n % 8 < 8 := Nat.mod_lt _ (by omega)
  obtain ⟨hp0, hp1⟩ := pow_bd hr8
  have hO := u8_or_nat (byteN zs (n / 8)) (2 ^ (n % 8)) hlt hp1
  rw [bit_or hlt hr8] at hO
  have hN := u8_andNot_nat (byteN zs (n / 8)) (2 ^ (n % 8)) hlt hp1
  rw [bit_andNot hlt hr8] at hN
  have M : Hid (∀ w, Calls Try.prog 26 #[.int .i64 (n : Int)] w fun e w' => e = .returned (.int .u8 ((2 ^ (n % 8) : Nat) : Int)) ∧ w' = w) := fun w => mask_same n w (by omega) _ rfl
  have HS : Hid (∀ (wx : World), Block wx w.heap.size zs → Block (wx.setCell ⟨w.heap.size, n / 8, none⟩ (.int .u8 ((sb (byteN zs (n / 8)) (n % 8) on : Nat) : Int))) w.heap.size (setB zs n on)) := fun wx h => h.set _ _
  have HB := hide hB
  have hb' := hide hb
  have hqw : IntKind.i64.wrap ((n : Int) / 8) = ((n / 8 : Nat) : Int) := by rw [IntKind.wrap_i64]; omega
  have hql : n / 8 < len := by omega
  have hql' : ((n / 8 : Nat) : Int) < (len : Int) := by omega
  clear hB hb hh hby hlen
  cases on
  · generalize sb (byteN zs (n / 8)) (n % 8) false = y at *
    generalize byteN zs (n / 8) = x at *
    generalize 2 ^ (n % 8) = p at *
    generalize n / 8 = q at *
    go_enter Try.func12, Try.ntmps12
    go_wp2_with (go_at_call 25; refine (unhide K _).mono ?_; rintro e w' ⟨rfl, rfl⟩)
    go_region_with ((go_at_call 26; refine (unhide M _).mono ?_; rintro e w' ⟨rfl, rfl⟩))
    all_goals go_wp2
    all_goals go_ret2
    all_goals exact ⟨rfl, unhide HS _ HB.out, (hb'.out.drew).setCell (Nat.le_refl _) _⟩
  · generalize sb (byteN zs (n / 8)) (n % 8) true = y at *
    generalize byteN zs (n / 8) = x at *
    generalize 2 ^ (n % 8) = p at *
    generalize n / 8 = q at *
    go_enter Try.func12, Try.ntmps12
    go_wp2_with (go_at_call 25; refine (unhide K _).mono ?_; rintro e w' ⟨rfl, rfl⟩)
    go_region_with ((go_at_call 26; refine (unhide M _).mono ?_; rintro e w' ⟨rfl, rfl⟩))
    all_goals go_wp2
    all_goals go_ret2
    all_goals exact ⟨rfl, unhide HS _ HB.out, (hb'.out.drew).setCell (Nat.le_refl _) _⟩

end Go.Proofs.Ytdgddlgdmkkejaa
