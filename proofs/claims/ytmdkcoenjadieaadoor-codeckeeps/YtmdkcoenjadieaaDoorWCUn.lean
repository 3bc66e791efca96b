/- Contracts of codec.Unsuper and codec.Unheader. -/
import Derived.Test.YtmdkcoenjadieaaDoorWJ38
import Derived.Test.YtmdkcoenjadieaaDoorWJ36
import Derived.Test.YtmdkcoenjadieaaDoorWJ34
import Derived.Test.YtmdkcoenjadieaaDoorWJ36
namespace Go.Proofs.YtmdkcoenjadieaaDoor
open Go.RowKit Go.Shelf
set_option linter.unusedVariables false
set_option maxRecDepth 100000

theorem numErr_zero {len : Nat} {at' n : Int} (h : numErr len at' n = 0) : ∃ wd : Nat, n = wd ∧ (wd = 1 ∨ wd = 2 ∨ wd = 4) := by
  rcases numErr_cases len at' n with h' | h' | ⟨_, at0, wd, _, rfl, hw, _⟩
  · omega
  · omega
  · exact ⟨wd, rfl, hw⟩

theorem getVal_bound {zs : List Int} (hz : ∀ z ∈ zs, 0 ≤ z ∧ z ≤ 255) (at' : Int) (n : Nat) : 0 ≤ getVal zs at' n ∧ getVal zs at' n < 256 ^ n := by
  unfold getVal
  have hp : (0 : Int) < 256 ^ n := Int.pow_pos (by omega)
  split
  · have hb := num_bound ((zs.drop at'.toNat).take (n : Int).toNat) (fun z h => hz z (List.mem_of_mem_drop (List.mem_of_mem_take h)))
    refine ⟨hb.1, Int.lt_of_lt_of_le hb.2 ?_⟩
    have hle : ((zs.drop at'.toNat).take (n : Int).toNat).length ≤ n := by rw [List.length_take, Int.toNat_natCast]; omega
    generalize ((zs.drop at'.toNat).take (n : Int).toNat).length = k at hle
    have h1 := Nat.pow_le_pow_right (n := 256) (by omega) hle
    have e1 : ((256 ^ k : Nat) : Int) = 256 ^ k := by rw [Int.natCast_pow]; rfl
    have e2 : ((256 ^ n : Nat) : Int) = 256 ^ n := by rw [Int.natCast_pow]; rfl
    rw [← e1, ← e2]
    exact Int.ofNat_le.2 h1
  · exact ⟨Int.le_refl _, hp⟩

theorem hdrF_of {zs : List Int} (hz : ∀ z ∈ zs, 0 ≤ z ∧ z ≤ 255) : hdrF (hdrOf zs) = true := by
  unfold hdrF
  rw [Bool.and_eq_true, fitB_iff, fitB_iff]
  refine ⟨fun v hv => ?_, fun v hv => ?_⟩
  · simp only [List.mem_cons, List.not_mem_nil, or_false] at hv
    subst hv
    exact getVal_bound hz 4 4
  · simp only [List.mem_cons, List.not_mem_nil, or_false] at hv
    rcases hv with rfl | rfl
    · exact getVal_bound hz 8 2
    · exact getVal_bound hz 10 2

set_option maxHeartbeats 4000000 in
theorem unheader1 (H : Nat → Int) (g1 : Nat) (a : Option Addr) (len cap : Nat) (w : World) (hc : w.cell? ⟨g1, 0, none⟩ = some (.slice a len cap)) (q : Int) (S : Value → World → Prop)
    (K : Hid (∀ u, Below w.heap.size w u → Calls Tryd.prog 11 #[Hv H, .int .i64 (len : Int)] u fun e w' => ∃ a' n' c', e = .returned (.tuple #[.slice a' n' c', .int .i64 q]) ∧ Hid (S (.slice a' n' c') w') ∧ Below u.heap.size u w')) :
    Calls Tryd.prog 53 #[Hv H, .pointer (some ⟨g1, 0, none⟩)] w fun e w' => ∃ a' n' c', e = .returned (.tuple #[.slice a' n' c', .int .i64 q]) ∧ Hid (S (.slice a' n' c') w') ∧ Below w.heap.size w w' := by
  have hb0 : Below w.heap.size w (w.alloc (.cells (Hc H) 25)) := (Below.refl _ w).alloc (Nat.le_refl _) _
  have hc1 : (w.alloc (.cells (Hc H) 25)).cell? ⟨g1, 0, none⟩ = some (.slice a len cap) := (hb0.cell (cell_block_lt hc)).trans hc
  have K' := hide (K.out _ hb0)
  have HB := hide hb0
  clear hc K hb0
  go_enter Tryd.func53, Tryd.ntmps53
  go_wp2_with fail
  go_at_call 11
  refine (unhide K').mono ?_
  rintro e w1 ⟨a', n', c', rfl, hS, hb⟩
  replace HB := hide (bchain HB.out hb (Nat.le_refl _))
  clear hb K' hc1
  go_wp2_with fail
  go_ret2
  exact ⟨a', n', c', rfl, hS, HB.out⟩

theorem cells_len {zs : List Int} {b : Nat} {L : List Int} (hL : L.length = 12) (hb : 16 ≤ b) : (sumB b L).length = b := by
  unfold sumB
  exact length_layB (by rw [List.length_append, length_digits, hL]; omega)

theorem sumB_byts {b : Nat} {L : List Int} (h : Byts L) : ∀ z ∈ sumB b L, 0 ≤ z ∧ z ≤ 255 := by
  refine layB_byte _ _ fun z hz => ?_
  rcases List.mem_append.1 hz with hz | hz
  · exact h z hz
  · exact digits_byte _ _ z hz

set_option maxHeartbeats 4000000 in
theorem unsuper_w (P : Nat → Int) (q : Int) (a : Option Addr) (len cap : Nat) (w : World) (K : Hid (∀ u, Below w.heap.size w u → Calls Tryd.prog 47 #[.slice a len cap, .func (.func 48) #[] #[], .func (.func 9) #[] #[]] u fun e w' => e = .returned (.tuple #[Pv P, .int .i64 q]) ∧ Below u.heap.size u w')) :
    Calls Tryd.prog 13 #[.slice a len cap] w fun e w' => e = .returned (.tuple #[Pv P, .int .i64 q]) ∧ Below w.heap.size w w' := by
  have HZ := hide (Bl.new w #[.int .i64 0, .int .i64 0, .int .i64 0, .int .i64 0, .int .i64 0, .int .i64 0, .int .i64 0, .int .i64 0, .int .i64 0, .int .i64 0, .int .i64 0, .int .i64 0] 23)
  have HB := hide ((Below.refl _ w).alloc (Nat.le_refl _) (.cells #[.int .i64 0, .int .i64 0, .int .i64 0, .int .i64 0, .int .i64 0, .int .i64 0, .int .i64 0, .int .i64 0, .int .i64 0, .int .i64 0, .int .i64 0, .int .i64 0] 23))
  go_enter Tryd.func13, Tryd.ntmps13
  go_wp2_with fail
  go_at_call 47
  refine (unhide K _ HB.out).mono ?_
  rintro e w1 ⟨rfl, hb⟩
  replace HB := hide (bchain HB.out hb (Nat.le_refl _))
  replace HZ := hide (HZ.out.call hb)
  clear hb K
  have z0 := HZ.out.cell 0 _ rfl
  have z1 := HZ.out.cell 1 _ rfl
  have z2 := HZ.out.cell 2 _ rfl
  have z3 := HZ.out.cell 3 _ rfl
  have z4 := HZ.out.cell 4 _ rfl
  have z5 := HZ.out.cell 5 _ rfl
  have z6 := HZ.out.cell 6 _ rfl
  have z7 := HZ.out.cell 7 _ rfl
  have z8 := HZ.out.cell 8 _ rfl
  have z9 := HZ.out.cell 9 _ rfl
  have z10 := HZ.out.cell 10 _ rfl
  have z11 := HZ.out.cell 11 _ rfl
  have hz := HZ.out.free
  go_wp2_with fail
  have hW : Below w.heap.size w (setAll w1 (w.heap.size) 0 [.int .i64 (P 0), .int .i64 (P 1), .int .i64 (P 2), .int .i64 (P 3), .int .i64 (P 4), .int .i64 (P 5), .int .i64 (P 6), .int .i64 (P 7), .int .i64 (P 8), .int .i64 (P 9), .int .i64 (P 10), .int .i64 (P 11)]) := below_setAll (by omega) _ _ _ _ HB.out
  have hA : Bl (setAll w1 (w.heap.size) 0 [.int .i64 (P 0), .int .i64 (P 1), .int .i64 (P 2), .int .i64 (P 3), .int .i64 (P 4), .int .i64 (P 5), .int .i64 (P 6), .int .i64 (P 7), .int .i64 (P 8), .int .i64 (P 9), .int .i64 (P 10), .int .i64 (P 11)]) (w.heap.size) #[.int .i64 (P 0), .int .i64 (P 1), .int .i64 (P 2), .int .i64 (P 3), .int .i64 (P 4), .int .i64 (P 5), .int .i64 (P 6), .int .i64 (P 7), .int .i64 (P 8), .int .i64 (P 9), .int .i64 (P 10), .int .i64 (P 11)] 23 := setAll_whole [.int .i64 (P 0), .int .i64 (P 1), .int .i64 (P 2), .int .i64 (P 3), .int .i64 (P 4), .int .i64 (P 5), .int .i64 (P 6), .int .i64 (P 7), .int .i64 (P 8), .int .i64 (P 9), .int .i64 (P 10), .int .i64 (P 11)] _ _ HZ.out rfl
  change bodyPost _ _ _ _ _ (setAll w1 (w.heap.size) 0 [.int .i64 (P 0), .int .i64 (P 1), .int .i64 (P 2), .int .i64 (P 3), .int .i64 (P 4), .int .i64 (P 5), .int .i64 (P 6), .int .i64 (P 7), .int .i64 (P 8), .int .i64 (P 9), .int .i64 (P 10), .int .i64 (P 11)])
  generalize setAll w1 (w.heap.size) 0 [.int .i64 (P 0), .int .i64 (P 1), .int .i64 (P 2), .int .i64 (P 3), .int .i64 (P 4), .int .i64 (P 5), .int .i64 (P 6), .int .i64 (P 7), .int .i64 (P 8), .int .i64 (P 9), .int .i64 (P 10), .int .i64 (P 11)] = wf at *
  refine bodyPost_ret (v := .tuple #[Pv P, .int .i64 q]) ?_ rfl ⟨rfl, hW⟩
  simp [results, Tryd.results13, go_sem, hA.cell 0 _ rfl, hA.cell 1 _ rfl, hA.cell 2 _ rfl, hA.cell 3 _ rfl, hA.cell 4 _ rfl, hA.cell 5 _ rfl, hA.cell 6 _ rfl, hA.cell 7 _ rfl, hA.cell 8 _ rfl, hA.cell 9 _ rfl, hA.cell 10 _ rfl, hA.cell 11 _ rfl]

set_option maxHeartbeats 4000000 in
theorem unheader_w (H : Nat → Int) (q : Int) (a : Option Addr) (len cap : Nat) (w : World) (K : Hid (∀ u, Below w.heap.size w u → u.cell? ⟨w.heap.size, 0, none⟩ = some (.slice a len cap) → Calls Tryd.prog 51 #[.slice a len cap, .func (.func 52) #[] #[], .func (.func 53) #[] #[.pointer (some ⟨w.heap.size, 0, none⟩)]] u fun e w' => e = .returned (.tuple #[Hv H, .int .i64 q]) ∧ Below u.heap.size u w')) :
    Calls Tryd.prog 15 #[.slice a len cap] w fun e w' => e = .returned (.tuple #[Hv H, .int .i64 q]) ∧ Below w.heap.size w w' := by
  have hb1 : Below w.heap.size w (w.alloc (.cells #[.slice a len cap] 26)) := (Below.refl _ w).alloc (Nat.le_refl _) _
  have hb2 : Below w.heap.size w ((w.alloc (.cells #[.slice a len cap] 26)).alloc (.cells #[.int .i64 0, .int .i64 0, .int .i64 0] 25)) := hb1.alloc hb1.size _
  have HZ : Hid (Bl ((w.alloc (.cells #[.slice a len cap] 26)).alloc (.cells #[.int .i64 0, .int .i64 0, .int .i64 0] 25)) (w.heap.size + 1) #[.int .i64 0, .int .i64 0, .int .i64 0] 25) := by
    have := Bl.new (w.alloc (.cells #[.slice a len cap] 26)) #[.int .i64 0, .int .i64 0, .int .i64 0] 25
    have e : (w.alloc (.cells #[.slice a len cap] 26)).heap.size = w.heap.size + 1 := by simp
    rw [e] at this
    exact this
  have hc : ((w.alloc (.cells #[.slice a len cap] 26)).alloc (.cells #[.int .i64 0, .int .i64 0, .int .i64 0] 25)).cell? ⟨w.heap.size, 0, none⟩ = some (.slice a len cap) := ((Bl.new w #[.slice a len cap] 26).alloc _).cell 0 _ rfl
  have K' := hide (K.out _ hb2 hc)
  have HB := hide hb2
  clear K hb1 hb2
  go_enter Tryd.func15, Tryd.ntmps15
  go_wp2_with fail
  go_at_call 51
  refine (unhide K').mono ?_
  rintro e w1 ⟨rfl, hb⟩
  replace HB := hide (bchain HB.out hb (Nat.le_refl _))
  replace HZ := hide (HZ.out.call hb)
  clear hb K' hc
  have z0 := HZ.out.cell 0 _ rfl
  have z1 := HZ.out.cell 1 _ rfl
  have z2 := HZ.out.cell 2 _ rfl
  have hz := HZ.out.free
  go_wp2_with fail
  have hW : Below w.heap.size w (setAll w1 (w.heap.size + 1) 0 [.int .i64 (H 0), .int .i64 (H 1), .int .i64 (H 2)]) := below_setAll (by omega) _ _ _ _ HB.out
  have hA : Bl (setAll w1 (w.heap.size + 1) 0 [.int .i64 (H 0), .int .i64 (H 1), .int .i64 (H 2)]) (w.heap.size + 1) #[.int .i64 (H 0), .int .i64 (H 1), .int .i64 (H 2)] 25 := setAll_whole [.int .i64 (H 0), .int .i64 (H 1), .int .i64 (H 2)] _ _ HZ.out rfl
  change bodyPost _ _ _ _ _ (setAll w1 (w.heap.size + 1) 0 [.int .i64 (H 0), .int .i64 (H 1), .int .i64 (H 2)])
  generalize setAll w1 (w.heap.size + 1) 0 [.int .i64 (H 0), .int .i64 (H 1), .int .i64 (H 2)] = wf at *
  refine bodyPost_ret (v := .tuple #[Hv H, .int .i64 q]) ?_ rfl ⟨rfl, hW⟩
  simp [results, Tryd.results15, go_sem, hA.cell 0 _ rfl, hA.cell 1 _ rfl, hA.cell 2 _ rfl]

/-- **codec.Unheader**, of bytes that are a header's. -/
theorem unheader_yes (a : Option Addr) (len cap : Nat) (zs : List Int) (w : World) (hr : Row w.heap.size w a len cap zs) (hT : Tab w) (h : isSize (len : Int)) (he : sumB len (hdrH (hdrOf zs)) = zs) :
    Calls Tryd.prog 15 #[.slice a len cap] w fun e w' => e = .returned (.tuple #[Hv (hdrOf zs), .int .i64 0]) ∧ Below w.heap.size w w' := by
  refine unheader_w (hdrOf zs) 0 a len cap w fun u hb hc => ?_
  have hru := hr.below hb hb.size
  have hTu := hT.below hb (tab_size hT)
  refine readH_same (hdrOf zs) w.heap.size a len cap u zs zs hru.has hr.byts hr.byts (by simp) (fun u2 hb2 => takeHeader_any a len cap zs u2 (hru.below hb2 hb2.size)) fun u2 hb2 => ?_
  refine (unheader1 (hdrOf zs) w.heap.size a len cap u2 ((hb2.cell (cell_block_lt hc)).trans hc) 0 (fun v w' => ∃ a' n' c', v = .slice a' n' c' ∧ Has w' a' n' zs) fun u3 hb3 => ?_).mono ?_
  · refine (header_good (hdrOf zs) len u3 h (hdrF_of hr.byts) ((hTu.below hb2 (tab_size hTu)).below hb3 (tab_size (hTu.below hb2 (tab_size hTu))))).mono ?_
    rintro e w' ⟨g, rfl, hg, hB, hb⟩
    refine ⟨_, _, _, rfl, ⟨_, _, _, rfl, ?_⟩, hb⟩
    rw [he] at hB
    exact hB.out.has hr.1
  · rintro e w' ⟨a', n', c', rfl, hS, hb⟩
    obtain ⟨a2, n2, c2, e2, hh⟩ := hS.out
    cases e2
    exact ⟨_, _, _, rfl, hh, hb⟩

/-- **codec.Unheader**, of other bytes. -/
theorem unheader_no (a : Option Addr) (len cap : Nat) (zs : List Int) (w : World) (hr : Row w.heap.size w a len cap zs) (hT : Tab w) (h : ¬ (isSize (len : Int) ∧ sumB len (hdrH (hdrOf zs)) = zs)) :
    Calls Tryd.prog 15 #[.slice a len cap] w fun e w' => e = .returned (.tuple #[Hv zeroH, .int .i64 4]) ∧ Below w.heap.size w w' := by
  refine unheader_w zeroH 4 a len cap w fun u hb hc => ?_
  have hru := hr.below hb hb.size
  have hTu := hT.below hb (tab_size hT)
  have HT : Hid (∀ u2, Below u.heap.size u u2 → Calls Tryd.prog 52 #[.slice a len cap] u2 fun e w' => e = .returned (Hv (hdrOf zs)) ∧ Below u2.heap.size u2 w') := fun u2 hb2 => takeHeader_any a len cap zs u2 (hru.below hb2 hb2.size)
  by_cases hs : isSize (len : Int)
  · have he : sumB len (hdrH (hdrOf zs)) ≠ zs := fun e => h ⟨hs, e⟩
    refine readH_other (hdrOf zs) w.heap.size a len cap u (sumB len (hdrH (hdrOf zs))) zs hru.has hr.byts (sumB_byts (hdrH_byts _)) (decide_eq_false he) HT fun u2 hb2 => ?_
    refine (unheader1 (hdrOf zs) w.heap.size a len cap u2 ((hb2.cell (cell_block_lt hc)).trans hc) 0 (fun v w' => ∃ a' n' c', v = .slice a' n' c' ∧ Has w' a' n' (sumB len (hdrH (hdrOf zs)))) fun u3 hb3 => ?_).mono ?_
    · refine (header_good (hdrOf zs) len u3 hs (hdrF_of hr.byts) ((hTu.below hb2 (tab_size hTu)).below hb3 (tab_size (hTu.below hb2 (tab_size hTu))))).mono ?_
      rintro e w' ⟨g, rfl, hg, hB, hb⟩
      exact ⟨_, _, _, rfl, ⟨_, _, _, rfl, hB.out.has (cells_len (zs := zs) (hdrH_length _) (by have := size_bd hs; omega))⟩, hb⟩
    · rintro e w' ⟨a', n', c', rfl, hS, hb⟩
      obtain ⟨a2, n2, c2, e2, hh⟩ := hS.out
      cases e2
      exact ⟨_, _, _, rfl, hh, hb⟩
  · refine readH_err (hdrOf zs) w.heap.size a len cap 1 u rfl HT fun u2 hb2 => ?_
    refine (unheader1 (hdrOf zs) w.heap.size a len cap u2 ((hb2.cell (cell_block_lt hc)).trans hc) 1 (fun v w' => v = .slice none 0 0) fun u3 hb3 => ?_).mono ?_
    · refine (header_arg (hdrOf zs) len u3 hs).mono ?_
      rintro e w' ⟨rfl, hb⟩
      exact ⟨_, _, _, rfl, rfl, hb⟩
    · rintro e w' ⟨a', n', c', rfl, hS, hb⟩
      have := hS.out
      rw [this]
      exact ⟨rfl, hb⟩

theorem sup_size {P : Nat → Int} (h : checkE P = 0) : P 0 = (((P 0).toNat : Nat) : Int) := by
  have := size_bd (check_bounds h).1
  omega

/-- **codec.Unsuper**, of bytes that are a superblock. -/
theorem unsuper_yes (a : Option Addr) (len cap : Nat) (zs : List Int) (w : World) (hr : Row w.heap.size w a len cap zs) (hT : Tab w) (h : checkE (supOf zs) = 0) (he : sumB (supOf zs 0).toNat (supH (supOf zs)) = zs) :
    Calls Tryd.prog 13 #[.slice a len cap] w fun e w' => e = .returned (.tuple #[Pv (supOf zs), .int .i64 0]) ∧ Below w.heap.size w w' := by
  refine unsuper_w (supOf zs) 0 a len cap w fun u hb => ?_
  have hru := hr.below hb hb.size
  have hTu := hT.below hb (tab_size hT)
  refine readP_same (supOf zs) a len cap u zs zs hru.has hr.byts hr.byts (by simp) (fun u2 hb2 => takeSuper_any a len cap zs u2 (hru.below hb2 hb2.size)) fun u2 hb2 => ?_
  refine (super_good (supOf zs) _ u2 h (sup_size h) (hTu.below hb2 (tab_size hTu))).mono ?_
  rintro e w' ⟨g, rfl, hg, hB, hb⟩
  have hl := cells_len (zs := zs) (b := (supOf zs 0).toNat) (supH_length (supOf zs)) (by have := size_bd (check_bounds h).1; omega)
  rw [he] at hl hB
  exact ⟨_, _, _, rfl, hB.out.has hl, hb⟩

/-- **codec.Unsuper**, of other bytes. -/
theorem unsuper_no (a : Option Addr) (len cap : Nat) (zs : List Int) (w : World) (hr : Row w.heap.size w a len cap zs) (hT : Tab w) (h : ¬ (checkE (supOf zs) = 0 ∧ sumB (supOf zs 0).toNat (supH (supOf zs)) = zs)) :
    Calls Tryd.prog 13 #[.slice a len cap] w fun e w' => e = .returned (.tuple #[Pv zeroP, .int .i64 4]) ∧ Below w.heap.size w w' := by
  refine unsuper_w zeroP 4 a len cap w fun u hb => ?_
  have hru := hr.below hb hb.size
  have hTu := hT.below hb (tab_size hT)
  have HT : Hid (∀ u2, Below u.heap.size u u2 → Calls Tryd.prog 48 #[.slice a len cap] u2 fun e w' => e = .returned (Pv (supOf zs)) ∧ Below u2.heap.size u2 w') := fun u2 hb2 => takeSuper_any a len cap zs u2 (hru.below hb2 hb2.size)
  by_cases hs : checkE (supOf zs) = 0
  · have he : sumB (supOf zs 0).toNat (supH (supOf zs)) ≠ zs := fun e => h ⟨hs, e⟩
    refine readP_other (supOf zs) a len cap u (sumB (supOf zs 0).toNat (supH (supOf zs))) zs hru.has hr.byts (sumB_byts (supH_byts _)) (decide_eq_false he) HT fun u2 hb2 => ?_
    refine (super_good (supOf zs) _ u2 hs (sup_size hs) (hTu.below hb2 (tab_size hTu))).mono ?_
    rintro e w' ⟨g, rfl, hg, hB, hb⟩
    exact ⟨_, _, _, rfl, hB.out.has (cells_len (zs := zs) (supH_length _) (by have := size_bd (check_bounds hs).1; omega)), hb⟩
  · exact readP_err (supOf zs) a len cap 4 u rfl HT fun u2 hb2 => super_bad (supOf zs) u2 hs

end Go.Proofs.YtmdkcoenjadieaaDoor
