/- The contracts of the document's Make and of the fixed call; what both Makes answer. -/
import Derived.Test.YtdgddlgdmkkejaaBMake
namespace Go.Proofs.Ytdgddlgdmkkejaa
open Go.RowKit Go.Shelf
set_option linter.unusedVariables false

theorem make_any (a : Option Addr) (len cap : Nat) (n : Int) (ns : List Int) (w : World) (hh : IHas w a len ns) (hl : len ≤ 140737488351232) :
    Calls Try.prog 19 #[.int .i64 n, .slice a len cap] w fun e w' => ∃ a' l c, e = .returned (.tuple #[.slice a' l c, .int .i64 (mke n ns)]) ∧ Hid (l ≤ 8192 ∧ Own w.heap.size w' a' l c (mkv n ns)) ∧ Hid (Below w.heap.size w w') := by
  by_cases h : n < 0 ∨ 65536 < n
  · refine (make_bad a len cap n w h).mono ?_
    rintro e w' ⟨rfl, rfl⟩
    refine ⟨_, _, _, by rw [mke, if_pos h], ⟨Nat.zero_le _, ?_⟩, Below.refl _ _⟩
    rw [mkv, if_pos h]
    exact Own.nil _ _
  · obtain ⟨N, rfl⟩ := Int.eq_ofNat_of_zero_le (show 0 ≤ n by omega)
    refine (make_good a len cap N ns w hh hl (by omega)).mono ?_
    rintro e w' ⟨⟨rfl, hn⟩ | ⟨rfl, ha, hB⟩, hb⟩
    · refine ⟨_, _, _, by rw [mke, if_neg h, if_neg (allB_no hn)], ⟨Nat.zero_le _, ?_⟩, hb⟩
      rw [mkv, if_neg h, if_neg (allB_no hn)]
      exact Own.nil _ _
    · refine ⟨_, _, _, by rw [mke, if_neg h, if_pos (allB_yes ha)], ⟨by omega, ?_⟩, hb⟩
      rw [mkv, if_neg h, if_pos (allB_yes ha)]
      exact hB.out.own (lay_length _ _) (Nat.le_refl _) (by omega)

theorem refSet_any (a : Option Addr) (len cap : Nat) (zs : List Int) (i : Int) (on : Bool) (w : World) (hh : Has w a len zs) (hby : ∀ z ∈ zs, 0 ≤ z ∧ z ≤ 255) (hl : len ≤ 140737488351232) :
    Calls Try.prog 13 #[.slice a len cap, .int .i64 i, .bool on] w fun e w' => ∃ a' l c, e = .returned (.tuple #[.slice a' l c, .int .i64 (ge len i)]) ∧ Hid (l ≤ len ∧ Own w.heap.size w' a' l c (sv len zs i on)) ∧ Hid (Below w.heap.size w w') := by
  by_cases hin : inB len i = true
  · obtain ⟨n, rfl, hn⟩ := inB_nat hin
    refine (refSet_good a len cap zs n on w hh hby hl hn).mono ?_
    rintro e w' ⟨a', c, rfl, hO, hb⟩
    refine ⟨_, _, _, by rw [ge, hin]; rfl, ⟨Nat.le_refl _, ?_⟩, hb⟩
    rw [sv_nat zs on hn]
    exact hO.out
  · have hin' : inB len i = false := by simpa using hin
    refine (refSet_bad a len cap zs i on w hh hby hl hin').mono ?_
    rintro e w' ⟨rfl, rfl⟩
    refine ⟨_, _, _, by rw [ge, hin']; rfl, ⟨Nat.zero_le _, ?_⟩, Below.refl _ _⟩
    rw [sv, hin']
    exact Own.nil _ _

set_option maxHeartbeats 1000000 in
theorem refMake_bad (a : Option Addr) (len cap : Nat) (n : Int) (w : World) (h : n < 0 ∨ 65536 < n) :
    Calls Try.prog 20 #[.int .i64 n, .slice a len cap] w fun e w' => e = .returned (.tuple #[.slice none 0 0, .int .i64 1]) ∧ w = w' := by
  by_cases h1 : n < 0
  · go_enter Try.func20, Try.ntmps20
    go_wp2
    go_ret2
    exact ⟨rfl, rfl⟩
  · have h2 : 65536 < n := by omega
    clear h
    go_enter Try.func20, Try.ntmps20
    go_wp2
    go_ret2
    exact ⟨rfl, rfl⟩

set_option maxRecDepth 100000 in
set_option maxHeartbeats 4000000 in
theorem refMake_good (a : Option Addr) (len cap : Nat) (N : Nat) (ns : List Int) (w : World) (hh : IHas w a len ns) (hl : len ≤ 140737488351232) (hN : N ≤ 65536) :
    Calls Try.prog 20 #[.int .i64 (N : Int), .slice a len cap] w fun e w' => (e = .returned (.tuple #[.slice none 0 0, .int .i64 2]) ∧ ¬ allIn (N : Int) ns ∨ ∃ a' c, e = .returned (.tuple #[.slice a' ((N + 7) / 8) c, .int .i64 0]) ∧ allIn (N : Int) ns ∧ Hid (Own w.heap.size w' a' ((N + 7) / 8) c (lay ((N + 7) / 8) ns))) ∧ Below w.heap.size w w' := by
  obtain ⟨L, hL⟩ : ∃ L, (N + 7) / 8 = L := ⟨_, rfl⟩
  rw [hL]
  have hLi : ((N : Int) + 7) / 8 = (L : Int) := by omega
  have hL8 : L ≤ 8192 := by omega
  have hmk := run_make_row' (P := Try.prog) 22 5 (.int .u8 0) 1 Try.underlying22 info5 rfl .i64 .i64 L (by omega) (by omega)
  have hb0 : Below w.heap.size w (w.alloc (.cells (madeCells #[.int .u8 0] L) 5)) := (Below.refl _ w).alloc (Nat.le_refl _) _
  have HB := hide ((make_block w L).own (B := w.heap.size) (by simp) (Nat.le_refl _) (by omega) : Own w.heap.size _ _ L L _)
  have HH := hide hh
  have hlen := hh.1
  clear hh
  go_enter Try.func20, Try.ntmps20
  go_wp2
  go_loopw [6, 7] (fun s i wr => ∃ (k : Nat) (a' : Option Addr) (c : Nat), k ≤ len ∧ i = .int .i64 (k : Int) ∧ s = .slice a' L c ∧ Hid (∀ j, j < k → 0 ≤ ns[j]?.getD 0 ∧ ns[j]?.getD 0 < (N : Int)) ∧ Hid (Own w.heap.size wr a' L c (lay L (ns.take k))) ∧ Hid (Below w.heap.size w wr)) (fun _ i _ => len - (intOf i).toNat)
  case atStart => exact ⟨0, _, _, Nat.zero_le _, rfl, rfl, fun j hj => by omega, HB, hb0⟩
  case round =>
    obtain ⟨k, a', c, hk, rfl, rfl, hj, hBk, hbk⟩ := hrel
    clear HB hmk hb0 hLi
    by_cases hlt : k < len
    · obtain ⟨b, off, rfl, hc⟩ := (HH.out.later hbk.out).2 (by omega)
      have hck := hc k hlt
      have HBad := hide (@allIn_bad (N : Int) ns k (by omega))
      have HL := hide (lay_succ L ns k (by omega))
      have HJ : Hid (0 ≤ ns[k]?.getD 0 ∧ ns[k]?.getD 0 < (N : Int) → ∀ j, j < k + 1 → 0 ≤ ns[j]?.getD 0 ∧ ns[j]?.getD 0 < (N : Int)) := by
        intro h j hjk
        by_cases he : j = k
        · subst he; exact h
        · exact hj.out j (by omega)
      generalize ns[k]?.getD 0 = z at *
      clear hc
      by_cases h1 : z < 0
      · have HN : Hid (¬ allIn (N : Int) ns) := HBad.out (.inl h1)
        clear HBad HL HJ
        go_wp2
        go_ret2
        exact ⟨.inl ⟨rfl, HN.out⟩, hbk.out⟩
      by_cases h2 : (N : Int) ≤ z
      · have HN : Hid (¬ allIn (N : Int) ns) := HBad.out (.inr h2)
        clear HBad HL HJ
        go_wp2
        go_ret2
        exact ⟨.inl ⟨rfl, HN.out⟩, hbk.out⟩
      · obtain ⟨m, rfl⟩ := Int.eq_ofNat_of_zero_le (show 0 ≤ z by omega)
        rw [Int.toNat_natCast] at HL
        have HJ' : Hid (∀ j, j < k + 1 → 0 ≤ ns[j]?.getD 0 ∧ ns[j]?.getD 0 < (N : Int)) := HJ.out ⟨by omega, by omega⟩
        have KS := hide (refSet_good a' L c (lay L (ns.take k)) m true wr hBk.out.has (lay_byts L _) (by omega) (by omega))
        rw [← HL.out] at KS
        clear HBad HJ HL
        go_wp2_with (go_at_call 13; refine (unhide KS).mono ?_; rintro e w' ⟨a2, c2, rfl, hO, hb⟩)
        exact ⟨⟨k + 1, a2, c2, by omega, by go_num, rfl, HJ', hO.out.base hbk.out.size, hbk.out.trans (hb.mono hbk.out.size)⟩, by simp [intOf]; omega⟩
    · obtain rfl : k = len := by omega
      have HA : Hid (allIn (N : Int) ns) := allIn_all (fun j hjl => hj.out j (by omega))
      go_wp2
      go_ret2
      refine ⟨.inr ⟨_, _, rfl, HA.out, ?_⟩, hbk.out⟩
      have := hBk.out
      rw [List.take_of_length_le (by omega)] at this
      exact this

theorem refMake_any (a : Option Addr) (len cap : Nat) (n : Int) (ns : List Int) (w : World) (hh : IHas w a len ns) (hl : len ≤ 140737488351232) :
    Calls Try.prog 20 #[.int .i64 n, .slice a len cap] w fun e w' => ∃ a' l c, e = .returned (.tuple #[.slice a' l c, .int .i64 (mke n ns)]) ∧ Hid (l ≤ 8192 ∧ Own w.heap.size w' a' l c (mkv n ns)) ∧ Hid (Below w.heap.size w w') := by
  by_cases h : n < 0 ∨ 65536 < n
  · refine (refMake_bad a len cap n w h).mono ?_
    rintro e w' ⟨rfl, rfl⟩
    refine ⟨_, _, _, by rw [mke, if_pos h], ⟨Nat.zero_le _, ?_⟩, Below.refl _ _⟩
    rw [mkv, if_pos h]
    exact Own.nil _ _
  · obtain ⟨N, rfl⟩ := Int.eq_ofNat_of_zero_le (show 0 ≤ n by omega)
    refine (refMake_good a len cap N ns w hh hl (by omega)).mono ?_
    rintro e w' ⟨⟨rfl, hn⟩ | ⟨a', c, rfl, ha, hO⟩, hb⟩
    · refine ⟨_, _, _, by rw [mke, if_neg h, if_neg (allB_no hn)], ⟨Nat.zero_le _, ?_⟩, hb⟩
      rw [mkv, if_neg h, if_neg (allB_no hn)]
      exact Own.nil _ _
    · refine ⟨_, _, _, by rw [mke, if_neg h, if_pos (allB_yes ha)], ⟨by omega, ?_⟩, hb⟩
      rw [mkv, if_neg h, if_pos (allB_yes ha)]
      exact hO.out

set_option maxHeartbeats 1000000 in
theorem wakes_any (w : World) : Calls Try.prog 9 #[] w fun e w' => e = .returned (.bool true) ∧ Below w.heap.size w w' := by
  obtain ⟨W, hW⟩ : ∃ W, w.alloc (.cells #[.int .i64 0, .int .i64 9] 3) = W := ⟨_, rfl⟩
  have hb0 : Below w.heap.size w W := by rw [← hW]; exact (Below.refl _ w).alloc (Nat.le_refl _) _
  have hI : IHas W (some ⟨w.heap.size, 0, none⟩) 2 [0, 9] := by
    refine ⟨rfl, fun _ => ⟨_, _, rfl, fun j hj => ?_⟩⟩
    have : j = 0 ∨ j = 1 := by omega
    rw [← hW]
    rcases this with rfl | rfl <;> (simp only [World.cell?]; rw [World.alloc_heap_new]; rfl)
  have K := make_good _ 2 2 10 [0, 9] W hI (by omega) (by omega)
  have K' : Hid (Calls Try.prog 19 #[.int .i64 10, .slice (some ⟨w.heap.size, 0, none⟩) 2 2] W fun e w' => ∃ g, e = .returned (.tuple #[.slice (some ⟨g, 0, none⟩) 2 2, .int .i64 0]) ∧ w'.cell? ⟨g, 0, none⟩ = some (.int .u8 1) ∧ w'.cell? ⟨g, 1, none⟩ = some (.int .u8 2) ∧ Hid (Below w.heap.size w w')) := by
    refine K.mono ?_
    rintro e w' ⟨⟨rfl, hn⟩ | ⟨rfl, ha, hB⟩, hb⟩
    · exact absurd (by intro z hz; simp at hz; omega) hn
    · have e1 : lay ((10 + 7) / 8) [0, 9] = [1, 2] := by decide
      rw [e1] at hB
      exact ⟨_, rfl, hB.out.cell (i := 0) (by simp), hB.out.cell (i := 1) (by simp), hb0.trans (hb.mono hb0.size)⟩
  clear K hI hb0
  go_enter Try.func9, Try.ntmps9
  go_wp2_with (go_at_call 19; refine (unhide K').mono ?_; rintro e w' ⟨g, rfl, c0, c1, hb⟩)
  go_ret
  exact ⟨rfl, hb.out⟩

end Go.Proofs.Ytdgddlgdmkkejaa
