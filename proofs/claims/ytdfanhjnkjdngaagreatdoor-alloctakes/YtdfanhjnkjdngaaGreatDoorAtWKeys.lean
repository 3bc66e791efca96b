/- slices.Sorted(maps.Keys(m)) of a map of rows, and slices.Compact of sorted numbers. -/
import Derived.Test.YtdfanhjnkjdngaaGreatDoorAtJ14
import Derived.Test.YtdfanhjnkjdngaaGreatDoorAtGVals
import Derived.Shelf.SlIterI.Nil
import Derived.Shelf.SlicesG.CompactI
namespace Go.Proofs.YtdfanhjnkjdngaaGreatDoor
open Go.RowKit Go.Shelf Go.Maps Go.Sort
set_option linter.unusedVariables false

shelf_lay_g SlLaysZI.n7 Ggz 7 at Tryz 100 as Tryz.keysL

shelf_lay_g SlLaysN.n43 Slgn 43 at Tryz 237 as Tryz.compL

theorem sortsL (m : Nat) : AnyZI.SortsIn Tryz.prog Tryz.sortedL_ren Fence.wide m :=
  ⟨fun blk off cap ss W hH hblk hsz => callsIn_wide.2 (AnyM.slices_Sort_int Tryz.sortL blk off cap ss W hH hblk hsz),
   fun p cap W => callsIn_wide.2 (AnyM.slices_Sort_int_none Tryz.sortL p cap W)⟩

def keysI (n : Nat) (M : Nat → Option (Nat × Nat)) : List Int := (keysB n M).map (fun k : Nat => (k : Int))

theorem intKeys_mB (n : Nat) (M : Nat → Option (Nat × Nat)) : intKeys (mB n M) = keysI n M := by
  simp [mB, intKeys, keysI, entB, List.map_map, Function.comp_def, Go.intOf]

theorem keysI_sorted {n : Nat} {M : Nat → Option (Nat × Nat)} {ss : List Int} (h : ss.Perm (intKeys (mB n M))) : ss.mergeSort (fun x y => decide (x ≤ y)) = keysI n M := by
  rw [intKeys_mB] at h
  refine srt_eq h ?_
  unfold keysI
  rw [List.pairwise_map]
  exact (keysB_rising n M).imp (fun {a b} h => by omega)

set_option maxHeartbeats 1000000 in
theorem keys_sorted (blk mb n : Nat) (M : Nat → Option (Nat × Nat)) (w : World) (h : MapB w blk mb n M) (hn : n ≤ 4096) :
    Calls Tryz.prog 100 #[.map (some mb)] w fun e w1 => e = .returned (.func (.func 192) #[] #[.pointer (some ⟨w.heap.size, 0, none⟩)]) ∧
      Hid (Calls Tryz.prog 99 #[.func (.func 192) #[] #[.pointer (some ⟨w.heap.size, 0, none⟩)]] w1 fun e w2 => ∃ v, e = .returned v ∧ Hid (Gr w.heap.size w2 v (keysI n M) ∧ Below w.heap.size w w2)) := by
  have hbl := h.lt
  have hl := keysB_len n M
  have hseq : SeqGives Fence.wide 2 Tryz.prog 192 #[.pointer (some ⟨w.heap.size, 0, none⟩)] encZ (fun ss => ss.Perm (intKeys (mB n M))) (Maps.size (mB n M)) (w.alloc (.cells #[.map (some mb)] 121)) :=
    AnyZI.keys_gives (ρ := Tryz.keysL_ren) { Tryz.keysL with } Fence.wide _ trivial rfl (by omega) w.heap.size mb (keysB n M).length (mB n M) _ (by simp) (by simp) (by
      obtain ⟨es, clock, hb, Ft, hs, hD⟩ := h
      exact ⟨es, clock, (Below.heap_alloc _ _ mb hbl).trans hb, Ft, hs, hD⟩)
  have cK : CallsIn Fence.wide 5 Tryz.prog 100 #[.map (some mb)] w fun e w' => e = .returned (.func (.func 192) #[] #[.pointer (some ⟨w.heap.size, 0, none⟩)]) ∧ w' = w.alloc (.cells #[.map (some mb)] 121) := AnyZI.keys_in Tryz.keysL Fence.wide 5 trivial rfl (some mb) w
  have cS := AnyZI.sorted_in Tryz.sortedL Fence.wide 5 trivial trivial trivial trivial rfl (by omega) (sortsL _) (enters_of Tryz.func191 (by kernel_rfl) rfl) 192 #[.pointer (some ⟨w.heap.size, 0, none⟩)] trivial (enters_of Tryz.func192 (by kernel_rfl) rfl) _ _ (by rw [mB_size]; unfold maxLen; omega) (by rw [mB_size]; omega) _ hseq
  change CallsIn _ _ Tryz.prog 99 _ _ _ at cS
  refine (callsIn_wide.1 cK).mono ?_
  rintro e w1 ⟨rfl, rfl⟩
  refine ⟨rfl, (callsIn_wide.1 cS).mono ?_⟩
  rintro e w2 ⟨v, ss, rfl, hS, hrow, _, hb⟩
  rw [keysI_sorted hS] at hrow
  have hlen : ss.length = (keysI n M).length := by rw [hS.length_eq, intKeys_mB]
  rw [hlen] at hrow
  exact ⟨v, rfl, ownsRow_base_a hrow (by simp), ((Below.refl _ w).alloc (Nat.le_refl _) _).trans (hb.mono (by simp))⟩

theorem compact_lt {zs : List Int} (h : zs.Pairwise (· ≤ ·)) : (Lib.compact zs).length < zs.length ↔ ¬ zs.Nodup := by
  have key : ∀ j, j < zs.length → (Lib.keeps zs.toArray j = true ↔ ∀ i, i < j → zs[i]?.getD 0 ≠ zs[j]?.getD 0) := by
    intro j hj
    have hg : ∀ k, k < zs.length → zs.toArray[k]! = zs[k]?.getD 0 := fun k hk => by simp [hk]
    constructor
    · intro hk i hi he
      rcases Nat.eq_zero_or_pos j with h0 | h0
      · omega
      · have hne : zs[j]?.getD 0 ≠ zs[j - 1]?.getD 0 := by
          intro e
          have := Lib.keeps_neg (d := zs.toArray) (m := j) h0 (by rw [hg j hj, hg (j - 1) (by omega)]; exact e)
          rw [this] at hk
          cases hk
        have h1 : zs[i]?.getD 0 ≤ zs[j - 1]?.getD 0 := by
          by_cases e : i = j - 1
          · rw [e]; omega
          · rw [List.getElem?_eq_getElem (by omega), List.getElem?_eq_getElem (by omega)]
            exact List.pairwise_iff_getElem.1 h i (j - 1) (by omega) (by omega) (by omega)
        have h2 : zs[j - 1]?.getD 0 ≤ zs[j]?.getD 0 := by
          rw [List.getElem?_eq_getElem (by omega), List.getElem?_eq_getElem (by omega)]
          exact List.pairwise_iff_getElem.1 h (j - 1) j (by omega) (by omega) (by omega)
        omega
    · intro hall
      rcases Nat.eq_zero_or_pos j with h0 | h0
      · subst h0; exact Lib.keeps_lt_one _ 0 (by omega)
      · refine Lib.keeps_pos ?_
        rw [hg j hj, hg (j - 1) (by omega)]
        exact fun e => hall (j - 1) (by omega) e.symm
  have hlen : (Lib.compact zs).length = ((List.range zs.length).filter (Lib.keeps zs.toArray)).length := by simp [Lib.compact, Lib.compactUpTo]
  rw [hlen]
  constructor
  · intro hlt hnd
    have hall : ∀ j ∈ List.range zs.length, Lib.keeps zs.toArray j = true := by
      intro j hj
      have hj' : j < zs.length := by simpa using hj
      rw [key j hj']
      intro i hi e
      rw [List.getElem?_eq_getElem (by omega), List.getElem?_eq_getElem hj'] at e
      exact List.pairwise_iff_getElem.1 hnd i j (by omega) hj' hi (by simpa using e)
    rw [List.filter_eq_self.2 hall] at hlt
    simp at hlt
  · intro hnd
    have hle := List.length_filter_le (Lib.keeps zs.toArray) (List.range zs.length)
    rw [List.length_range] at hle
    rcases Nat.lt_or_ge ((List.range zs.length).filter (Lib.keeps zs.toArray)).length zs.length with hl | hl
    · exact hl
    · exfalso
      have hall := List.length_filter_eq_length_iff.1 (show ((List.range zs.length).filter (Lib.keeps zs.toArray)).length = (List.range zs.length).length by rw [List.length_range]; omega)
      refine hnd (List.pairwise_iff_getElem.2 (fun i j hi hj hij e => ?_))
      have := (key j hj).1 (hall j (by simpa using hj)) i hij
      rw [List.getElem?_eq_getElem hi, List.getElem?_eq_getElem hj] at this
      exact this (by simpa using e)

set_option maxHeartbeats 1000000 in
theorem compact_any (B : Nat) (v : Value) (zs : List Int) (w : World) (h : Gr B w v zs) (hn : zs.length ≤ 17592186044416) (hB : B ≤ w.heap.size) :
    Calls Tryz.prog 237 #[v] w fun e w' => ∃ a c, e = .returned (.slice a (Lib.compact zs).length c) ∧ Below B w w' := by
  obtain ⟨h1, h2⟩ := h
  rcases h2 with ⟨rfl, h0⟩ | ⟨g, cap, cur, rfl, hg, hh, h2, h3, hc, ht⟩
  · obtain rfl : zs = [] := List.eq_nil_of_length_eq_zero h0
    have := AnyG.slices_Compact_int_empty Tryz.compL none 0 w
    change Calls Tryz.prog 237 _ _ _ at this
    refine this.mono ?_
    rintro e w' ⟨rfl, rfl⟩
    exact ⟨none, 0, by simp [Lib.compact, Lib.compactUpTo], Below.refl _ _⟩
  · have hH : Go.Sort.Holds (Value.int .i64) w g 0 zs.toArray := holds_of_blockI hh (by simpa using ht)
    have := AnyG.slices_Compact_int Tryz.compL g 0 cap zs w hH (by omega) (by simpa using h2)
    change Calls Tryz.prog 237 _ _ _ at this
    refine this.mono ?_
    rintro e w' ⟨rfl, q, rfl⟩
    refine ⟨_, _, rfl, ⟨rfl, rfl, rfl, by simp, fun k hk => ?_⟩⟩
    have : g ≠ k := by omega
    simp [putRow, mapBlock, Sort.ahead, Array.getElem?_modify, this]

end Go.Proofs.YtdfanhjnkjdngaaGreatDoor
