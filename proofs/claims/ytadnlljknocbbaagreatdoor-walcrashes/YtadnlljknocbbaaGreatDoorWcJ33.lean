/- Joined: CSupB, CTake, CUn, CBackH. -/
import Derived.Test.YtadnlljknocbbaaGreatDoorWcJ32
import Derived.Test.YtadnlljknocbbaaGreatDoorWcJ26
import Derived.Test.YtadnlljknocbbaaGreatDoorWcJ5
import Derived.Test.YtadnlljknocbbaaGreatDoorWcJ29
import Derived.Test.YtadnlljknocbbaaGreatDoorWcJ16
/- Contracts of codec.Super and skerryref06.Super. -/
namespace Go.Proofs.YtadnlljknocbbaaGreatDoor
open Go.RowKit Go.Shelf
set_option linter.unusedVariables false
set_option maxRecDepth 100000

/-- S K R Y. -/
def skry : List Int := [83, 75, 82, 89]

/-- The twelve bytes ahead of a superblock's sum. -/
def supH (P : Nat → Int) : List Int := skry ++ numsB 2 [P 0, P 1, P 2, P 3]

theorem supH_length (P : Nat → Int) : (supH P).length = 12 := by simp [supH, skry, length_numsB]

theorem skry_byts : Byts skry := by intro z hz; simp [skry] at hz; omega

theorem supH_byts (P : Nat → Int) : Byts (supH P) := by
  intro z hz
  simp only [supH, List.mem_append] at hz
  rcases hz with hz | hz
  · exact skry_byts z hz
  · exact numsB_byte _ _ z hz

/-- What a sound plan's first numbers are. -/
theorem check_bounds {P : Nat → Int} (h : checkE P = 0) : isSize (P 0) ∧ 1 ≤ P 1 ∧ P 1 ≤ 4096 ∧ 2 ≤ P 2 ∧ P 2 ≤ 1024 ∧ 4 ≤ P 3 ∧ P 3 ≤ 512 := by
  have he : makeE (P 0) (P 1) (P 2) (P 3) = 0 := by
    by_cases h0 : makeE (P 0) (P 1) (P 2) (P 3) = 0
    · exact h0
    · rw [checkE_bad h0] at h; omega
  by_cases hb : badArg (P 0) (P 1) (P 2) (P 3)
  · rw [makeE_bad hb] at he; omega
  · obtain ⟨h1, h2, h3, h4⟩ := good_arg hb
    exact ⟨h1, by omega, by omega, by omega, by omega, by omega, by omega⟩

theorem check_fit {P : Nat → Int} (h : checkE P = 0) : fitB 2 [P 0, P 1, P 2, P 3] = true := by
  obtain ⟨h0, h1⟩ := check_bounds h
  have := size_bd h0
  rw [fitB_iff]
  intro v hv
  simp only [List.mem_cons, List.not_mem_nil, or_false] at hv
  rcases hv with rfl | rfl | rfl | rfl <;> omega

/-- []byte("SKRY"): the row and its mark. -/
theorem conv_skry (u : World) : (convert 50 50 (.slice (some ⟨u.heap.size, 0, none⟩) 4 4)).run Tryz.prog (u.alloc (.cells #[.int .u8 83, .int .u8 75, .int .u8 82, .int .u8 89] 5)) = .ok (.slice (some ⟨u.heap.size, 0, none⟩) 4 4) (u.alloc (.cells #[.int .u8 83, .int .u8 75, .int .u8 82, .int .u8 89] 5 (4, 5))) :=
  Lib.run_convert_bytes_const (P := Tryz.prog) u 50 5 #[.int .u8 83, .int .u8 75, .int .u8 82, .int .u8 89] 4 4 Tryz.underlying50 Tryz.underlying5

end Go.Proofs.YtadnlljknocbbaaGreatDoor

/- Contracts of codec.takeHeader and codec.takeSuper. -/
namespace Go.Proofs.YtadnlljknocbbaaGreatDoor
open Go.RowKit Go.Shelf
set_option linter.unusedVariables false
set_option maxRecDepth 100000

/-- What is found in bytes as a header. -/
def hdrOf (zs : List Int) : Nat → Int
  | 0 => getVal zs 4 4
  | 1 => getVal zs 8 2
  | _ => getVal zs 10 2

set_option maxRecDepth 100000 in
set_option maxHeartbeats 4000000 in
theorem takeHeader_any (a : Option Addr) (len cap : Nat) (zs : List Int) (w : World) (hr : Row w.heap.size w a len cap zs) :
    Calls Tryz.prog 126 #[.slice a len cap] w fun e w' => e = .returned (Hv (hdrOf zs)) ∧ Below w.heap.size w w' := by
  have KG : Hid (∀ (at' n : Int) (u : World), at' ≤ 1000 → Below w.heap.size w u → Calls Tryz.prog 144 #[.slice a len cap, .int .i64 at', .int .i64 n] u fun e w' => e = .returned (.int .i64 (getVal zs at' n)) ∧ Below u.heap.size u w') :=
    fun at' n u h1 hb => get_drop a len cap zs at' n u (hr.below hb hb.size) (by omega)
  have HZ := hide (Bl.new w #[.int .i64 0, .int .i64 0, .int .i64 0] 57)
  have HB := hide ((Below.refl _ w).alloc (Nat.le_refl _) (.cells #[.int .i64 0, .int .i64 0, .int .i64 0] 57))
  clear hr
  change Calls Tryz.prog 126 #[.slice a len cap] w fun e w' => e = .returned (.agg #[.int .i64 (getVal zs 4 4), .int .i64 (getVal zs 8 2), .int .i64 (getVal zs 10 2)]) ∧ Below w.heap.size w w'
  go_enter Tryz.func126, Tryz.ntmps126
  go_wp2_with fail
  go_at_call 144
  refine (unhide KG _ _ _ (by omega) HB.out).mono ?_
  rintro e w1 ⟨rfl, hb⟩
  replace HB := hide (bchain HB.out hb (Nat.le_refl _))
  replace HZ := hide (HZ.out.call hb)
  clear hb
  go_wp2_with fail
  go_at_call 144
  refine (unhide KG _ _ _ (by omega) HB.out).mono ?_
  rintro e w2 ⟨rfl, hb⟩
  replace HB := hide (bchain HB.out hb (Nat.le_refl _))
  replace HZ := hide (HZ.out.call hb)
  clear hb
  go_wp2_with fail
  go_at_call 144
  refine (unhide KG _ _ _ (by omega) HB.out).mono ?_
  rintro e w3 ⟨rfl, hb⟩
  replace HB := hide (bchain HB.out hb (Nat.le_refl _))
  replace HZ := hide (HZ.out.call hb)
  clear hb
  have z0 := HZ.out.cell 0 _ rfl
  have z1 := HZ.out.cell 1 _ rfl
  have z2 := HZ.out.cell 2 _ rfl
  have hz := HZ.out.free
  clear KG
  go_wp2_with fail
  have hW : Below w.heap.size w (setAll w3 w.heap.size 0 [.int .i64 (getVal zs 4 4), .int .i64 (getVal zs 8 2), .int .i64 (getVal zs 10 2)]) := below_setAll (Nat.le_refl _) _ _ _ _ HB.out
  have hA : Bl (setAll w3 w.heap.size 0 [.int .i64 (getVal zs 4 4), .int .i64 (getVal zs 8 2), .int .i64 (getVal zs 10 2)]) w.heap.size #[.int .i64 (getVal zs 4 4), .int .i64 (getVal zs 8 2), .int .i64 (getVal zs 10 2)] 57 := setAll_whole [.int .i64 (getVal zs 4 4), .int .i64 (getVal zs 8 2), .int .i64 (getVal zs 10 2)] _ _ HZ.out rfl
  change bodyPost _ _ _ _ _ (setAll w3 w.heap.size 0 [.int .i64 (getVal zs 4 4), .int .i64 (getVal zs 8 2), .int .i64 (getVal zs 10 2)])
  generalize setAll w3 w.heap.size 0 [.int .i64 (getVal zs 4 4), .int .i64 (getVal zs 8 2), .int .i64 (getVal zs 10 2)] = wf at *
  refine bodyPost_ret (v := .agg #[.int .i64 (getVal zs 4 4), .int .i64 (getVal zs 8 2), .int .i64 (getVal zs 10 2)]) ?_ rfl ⟨rfl, hW⟩
  simp [results, Tryz.results126, go_sem, hA.cell 0 _ rfl, hA.cell 1 _ rfl, hA.cell 2 _ rfl]

/-- What is found in bytes as a plan. -/
def supOf (zs : List Int) : Nat → Int := makeP (getVal zs 4 2) (getVal zs 6 2) (getVal zs 8 2) (getVal zs 10 2)

end Go.Proofs.YtadnlljknocbbaaGreatDoor

/- Contracts of codec.Unsuper and codec.Unheader. -/
namespace Go.Proofs.YtadnlljknocbbaaGreatDoor
open Go.RowKit Go.Shelf
set_option linter.unusedVariables false
set_option maxRecDepth 100000

theorem numErr_zero {len : Nat} {at' n : Int} (h : numErr len at' n = 0) : ∃ wd : Nat, n = wd ∧ (wd = 1 ∨ wd = 2 ∨ wd = 4) := by
  rcases numErr_cases len at' n with h' | h' | ⟨_, at0, wd, _, rfl, hw, _⟩
  · omega
  · omega
  · exact ⟨wd, rfl, hw⟩

theorem getVal_bound {zs : List Int} (hz : ∀ z ∈ zs, 0 ≤ z ∧ z ≤ 255) (at' : Int) (n : Nat) : 0 ≤ getVal zs at' n ∧ getVal zs at' n < 256 ^ n := by
  unfold getVal
  have hp : (0 : Int) < 256 ^ n := Int.pow_pos (by omega)
  split
  · have hb := num_bound ((zs.drop at'.toNat).take (n : Int).toNat) (fun z h => hz z (List.mem_of_mem_drop (List.mem_of_mem_take h)))
    refine ⟨hb.1, Int.lt_of_lt_of_le hb.2 ?_⟩
    have hle : ((zs.drop at'.toNat).take (n : Int).toNat).length ≤ n := by rw [List.length_take, Int.toNat_natCast]; omega
    generalize ((zs.drop at'.toNat).take (n : Int).toNat).length = k at hle
    have h1 := Nat.pow_le_pow_right (n := 256) (by omega) hle
    have e1 : ((256 ^ k : Nat) : Int) = 256 ^ k := by rw [Int.natCast_pow]; rfl
    have e2 : ((256 ^ n : Nat) : Int) = 256 ^ n := by rw [Int.natCast_pow]; rfl
    rw [← e1, ← e2]
    exact Int.ofNat_le.2 h1
  · exact ⟨Int.le_refl _, hp⟩

theorem hdrF_of {zs : List Int} (hz : ∀ z ∈ zs, 0 ≤ z ∧ z ≤ 255) : hdrF (hdrOf zs) = true := by
  unfold hdrF
  rw [Bool.and_eq_true, fitB_iff, fitB_iff]
  refine ⟨fun v hv => ?_, fun v hv => ?_⟩
  · simp only [List.mem_cons, List.not_mem_nil, or_false] at hv
    subst hv
    exact getVal_bound hz 4 4
  · simp only [List.mem_cons, List.not_mem_nil, or_false] at hv
    rcases hv with rfl | rfl
    · exact getVal_bound hz 8 2
    · exact getVal_bound hz 10 2

set_option maxRecDepth 100000 in
set_option maxHeartbeats 4000000 in
theorem unheader1 (H : Nat → Int) (g1 : Nat) (a : Option Addr) (len cap : Nat) (w : World) (hc : w.cell? ⟨g1, 0, none⟩ = some (.slice a len cap)) (q : Int) (S : Value → World → Prop)
    (K : Hid (∀ u, Below w.heap.size w u → Calls Tryz.prog 115 #[Hv H, .int .i64 (len : Int)] u fun e w' => ∃ a' n' c', e = .returned (.tuple #[.slice a' n' c', .int .i64 q]) ∧ Hid (S (.slice a' n' c') w') ∧ Below u.heap.size u w')) :
    Calls Tryz.prog 127 #[Hv H, .pointer (some ⟨g1, 0, none⟩)] w fun e w' => ∃ a' n' c', e = .returned (.tuple #[.slice a' n' c', .int .i64 q]) ∧ Hid (S (.slice a' n' c') w') ∧ Below w.heap.size w w' := by
  have hb0 : Below w.heap.size w (w.alloc (.cells (Hc H) 57)) := (Below.refl _ w).alloc (Nat.le_refl _) _
  have hc1 : (w.alloc (.cells (Hc H) 57)).cell? ⟨g1, 0, none⟩ = some (.slice a len cap) := (hb0.cell (cell_block_lt hc)).trans hc
  have K' := hide (K.out _ hb0)
  have HB := hide hb0
  clear hc K hb0
  go_enter Tryz.func127, Tryz.ntmps127
  go_wp2_with fail
  go_at_call 115
  refine (unhide K').mono ?_
  rintro e w1 ⟨a', n', c', rfl, hS, hb⟩
  replace HB := hide (bchain HB.out hb (Nat.le_refl _))
  clear hb K' hc1
  go_wp2_with fail
  go_ret2
  exact ⟨a', n', c', rfl, hS, HB.out⟩

theorem cells_len {zs : List Int} {b : Nat} {L : List Int} (hL : L.length = 12) (hb : 16 ≤ b) : (sumB b L).length = b := by
  unfold sumB
  exact length_layB (by rw [List.length_append, length_digits, hL]; omega)

theorem sumB_byts {b : Nat} {L : List Int} (h : Byts L) : ∀ z ∈ sumB b L, 0 ≤ z ∧ z ≤ 255 := by
  refine layB_byte _ _ fun z hz => ?_
  rcases List.mem_append.1 hz with hz | hz
  · exact h z hz
  · exact digits_byte _ _ z hz

set_option maxRecDepth 100000 in
set_option maxHeartbeats 4000000 in
theorem unheader_w (H : Nat → Int) (q : Int) (a : Option Addr) (len cap : Nat) (w : World) (K : Hid (∀ u, Below w.heap.size w u → u.cell? ⟨w.heap.size, 0, none⟩ = some (.slice a len cap) → Calls Tryz.prog 125 #[.slice a len cap, .func (.func 126) #[] #[], .func (.func 127) #[] #[.pointer (some ⟨w.heap.size, 0, none⟩)]] u fun e w' => e = .returned (.tuple #[Hv H, .int .i64 q]) ∧ Below u.heap.size u w')) :
    Calls Tryz.prog 104 #[.slice a len cap] w fun e w' => e = .returned (.tuple #[Hv H, .int .i64 q]) ∧ Below w.heap.size w w' := by
  have hb1 : Below w.heap.size w (w.alloc (.cells #[.slice a len cap] 50)) := (Below.refl _ w).alloc (Nat.le_refl _) _
  have hb2 : Below w.heap.size w ((w.alloc (.cells #[.slice a len cap] 50)).alloc (.cells #[.int .i64 0, .int .i64 0, .int .i64 0] 57)) := hb1.alloc hb1.size _
  have HZ : Hid (Bl ((w.alloc (.cells #[.slice a len cap] 50)).alloc (.cells #[.int .i64 0, .int .i64 0, .int .i64 0] 57)) (w.heap.size + 1) #[.int .i64 0, .int .i64 0, .int .i64 0] 57) := by
    have := Bl.new (w.alloc (.cells #[.slice a len cap] 50)) #[.int .i64 0, .int .i64 0, .int .i64 0] 57
    have e : (w.alloc (.cells #[.slice a len cap] 50)).heap.size = w.heap.size + 1 := by simp
    rw [e] at this
    exact this
  have hc : ((w.alloc (.cells #[.slice a len cap] 50)).alloc (.cells #[.int .i64 0, .int .i64 0, .int .i64 0] 57)).cell? ⟨w.heap.size, 0, none⟩ = some (.slice a len cap) := ((Bl.new w #[.slice a len cap] 50).alloc _).cell 0 _ rfl
  have K' := hide (K.out _ hb2 hc)
  have HB := hide hb2
  clear K hb1 hb2
  go_enter Tryz.func104, Tryz.ntmps104
  go_wp2_with fail
  go_at_call 125
  refine (unhide K').mono ?_
  rintro e w1 ⟨rfl, hb⟩
  replace HB := hide (bchain HB.out hb (Nat.le_refl _))
  replace HZ := hide (HZ.out.call hb)
  clear hb K' hc
  have z0 := HZ.out.cell 0 _ rfl
  have z1 := HZ.out.cell 1 _ rfl
  have z2 := HZ.out.cell 2 _ rfl
  have hz := HZ.out.free
  go_wp2_with fail
  have hW : Below w.heap.size w (setAll w1 (w.heap.size + 1) 0 [.int .i64 (H 0), .int .i64 (H 1), .int .i64 (H 2)]) := below_setAll (by omega) _ _ _ _ HB.out
  have hA : Bl (setAll w1 (w.heap.size + 1) 0 [.int .i64 (H 0), .int .i64 (H 1), .int .i64 (H 2)]) (w.heap.size + 1) #[.int .i64 (H 0), .int .i64 (H 1), .int .i64 (H 2)] 57 := setAll_whole [.int .i64 (H 0), .int .i64 (H 1), .int .i64 (H 2)] _ _ HZ.out rfl
  change bodyPost _ _ _ _ _ (setAll w1 (w.heap.size + 1) 0 [.int .i64 (H 0), .int .i64 (H 1), .int .i64 (H 2)])
  generalize setAll w1 (w.heap.size + 1) 0 [.int .i64 (H 0), .int .i64 (H 1), .int .i64 (H 2)] = wf at *
  refine bodyPost_ret (v := .tuple #[Hv H, .int .i64 q]) ?_ rfl ⟨rfl, hW⟩
  simp [results, Tryz.results104, go_sem, hA.cell 0 _ rfl, hA.cell 1 _ rfl, hA.cell 2 _ rfl]

/-- **codec.Unheader**, of bytes that are a header's. -/
theorem unheader_yes (a : Option Addr) (len cap : Nat) (zs : List Int) (w : World) (hr : Row w.heap.size w a len cap zs) (hT : Tab w) (h : isSize (len : Int)) (he : sumB len (hdrH (hdrOf zs)) = zs) :
    Calls Tryz.prog 104 #[.slice a len cap] w fun e w' => e = .returned (.tuple #[Hv (hdrOf zs), .int .i64 0]) ∧ Below w.heap.size w w' := by
  refine unheader_w (hdrOf zs) 0 a len cap w fun u hb hc => ?_
  have hru := hr.below hb hb.size
  have hTu := hT.below hb (tab_size hT)
  refine readH_same (hdrOf zs) w.heap.size a len cap u zs zs hru.has hr.byts hr.byts (by simp) (fun u2 hb2 => takeHeader_any a len cap zs u2 (hru.below hb2 hb2.size)) fun u2 hb2 => ?_
  refine (unheader1 (hdrOf zs) w.heap.size a len cap u2 ((hb2.cell (cell_block_lt hc)).trans hc) 0 (fun v w' => ∃ a' n' c', v = .slice a' n' c' ∧ Has w' a' n' zs) fun u3 hb3 => ?_).mono ?_
  · refine (header_good (hdrOf zs) len u3 h (hdrF_of hr.byts) ((hTu.below hb2 (tab_size hTu)).below hb3 (tab_size (hTu.below hb2 (tab_size hTu))))).mono ?_
    rintro e w' ⟨g, rfl, hg, hB, hb⟩
    refine ⟨_, _, _, rfl, ⟨_, _, _, rfl, ?_⟩, hb⟩
    rw [he] at hB
    exact hB.out.has hr.1
  · rintro e w' ⟨a', n', c', rfl, hS, hb⟩
    obtain ⟨a2, n2, c2, e2, hh⟩ := hS.out
    cases e2
    exact ⟨_, _, _, rfl, hh, hb⟩

/-- **codec.Unheader**, of other bytes. -/
theorem unheader_no (a : Option Addr) (len cap : Nat) (zs : List Int) (w : World) (hr : Row w.heap.size w a len cap zs) (hT : Tab w) (h : ¬ (isSize (len : Int) ∧ sumB len (hdrH (hdrOf zs)) = zs)) :
    Calls Tryz.prog 104 #[.slice a len cap] w fun e w' => e = .returned (.tuple #[Hv zeroH, .int .i64 4]) ∧ Below w.heap.size w w' := by
  refine unheader_w zeroH 4 a len cap w fun u hb hc => ?_
  have hru := hr.below hb hb.size
  have hTu := hT.below hb (tab_size hT)
  have HT : Hid (∀ u2, Below u.heap.size u u2 → Calls Tryz.prog 126 #[.slice a len cap] u2 fun e w' => e = .returned (Hv (hdrOf zs)) ∧ Below u2.heap.size u2 w') := fun u2 hb2 => takeHeader_any a len cap zs u2 (hru.below hb2 hb2.size)
  by_cases hs : isSize (len : Int)
  · have he : sumB len (hdrH (hdrOf zs)) ≠ zs := fun e => h ⟨hs, e⟩
    refine readH_other (hdrOf zs) w.heap.size a len cap u (sumB len (hdrH (hdrOf zs))) zs hru.has hr.byts (sumB_byts (hdrH_byts _)) (decide_eq_false he) HT fun u2 hb2 => ?_
    refine (unheader1 (hdrOf zs) w.heap.size a len cap u2 ((hb2.cell (cell_block_lt hc)).trans hc) 0 (fun v w' => ∃ a' n' c', v = .slice a' n' c' ∧ Has w' a' n' (sumB len (hdrH (hdrOf zs)))) fun u3 hb3 => ?_).mono ?_
    · refine (header_good (hdrOf zs) len u3 hs (hdrF_of hr.byts) ((hTu.below hb2 (tab_size hTu)).below hb3 (tab_size (hTu.below hb2 (tab_size hTu))))).mono ?_
      rintro e w' ⟨g, rfl, hg, hB, hb⟩
      exact ⟨_, _, _, rfl, ⟨_, _, _, rfl, hB.out.has (cells_len (zs := zs) (hdrH_length _) (by have := size_bd hs; omega))⟩, hb⟩
    · rintro e w' ⟨a', n', c', rfl, hS, hb⟩
      obtain ⟨a2, n2, c2, e2, hh⟩ := hS.out
      cases e2
      exact ⟨_, _, _, rfl, hh, hb⟩
  · refine readH_err (hdrOf zs) w.heap.size a len cap 1 u rfl HT fun u2 hb2 => ?_
    refine (unheader1 (hdrOf zs) w.heap.size a len cap u2 ((hb2.cell (cell_block_lt hc)).trans hc) 1 (fun v w' => v = .slice none 0 0) fun u3 hb3 => ?_).mono ?_
    · refine (header_arg (hdrOf zs) len u3 hs).mono ?_
      rintro e w' ⟨rfl, hb⟩
      exact ⟨_, _, _, rfl, rfl, hb⟩
    · rintro e w' ⟨a', n', c', rfl, hS, hb⟩
      have := hS.out
      rw [this]
      exact ⟨rfl, hb⟩

theorem sup_size {P : Nat → Int} (h : checkE P = 0) : P 0 = (((P 0).toNat : Nat) : Int) := by
  have := size_bd (check_bounds h).1
  omega

end Go.Proofs.YtadnlljknocbbaaGreatDoor

/- What is written as a header is read again. -/
namespace Go.Proofs.YtadnlljknocbbaaGreatDoor
open Go.RowKit Go.Shelf
set_option linter.unusedVariables false
set_option maxRecDepth 100000

theorem getVal_mid (A B : List Int) (at0 wd : Nat) (v : Int) (hA : A.length = at0) (hw : wd = 1 ∨ wd = 2 ∨ wd = 4) (h : 0 ≤ v ∧ v < 256 ^ wd) : getVal (A ++ (digits wd v ++ B)) (at0 : Int) (wd : Int) = v := by
  unfold getVal
  rw [if_pos (numErr_ok hw (by rw [List.length_append, List.length_append, length_digits, hA]; omega))]
  rw [Int.toNat_natCast, Int.toNat_natCast, List.drop_append_of_le_length (by omega), List.drop_of_length_le (by omega), List.nil_append, List.take_append_of_le_length (by rw [length_digits]; omega), List.take_of_length_le (by rw [length_digits]; omega)]
  exact num_digits wd v h.1 h.2

/-- Numbers one behind the other, each with its width. -/
def encF : List (Nat × Int) → List Int
  | [] => []
  | f :: fs => digits f.1 f.2 ++ encF fs

def offF : List (Nat × Int) → Nat → Nat
  | [], _ => 0
  | _, 0 => 0
  | f :: fs, k + 1 => f.1 + offF fs k

theorem getVal_field : ∀ (fs : List (Nat × Int)) (k : Nat) (wd : Nat) (v : Int) (pre R : List Int), fs[k]? = some (wd, v) → (wd = 1 ∨ wd = 2 ∨ wd = 4) → 0 ≤ v ∧ v < 256 ^ wd → getVal (pre ++ (encF fs ++ R)) ((pre.length + offF fs k : Nat) : Int) (wd : Int) = v
  | [], k, wd, v, pre, R, h, hw, hv => by cases h
  | f :: fs, 0, wd, v, pre, R, h, hw, hv => by
    simp at h
    subst h
    rw [encF, List.append_assoc]
    exact getVal_mid pre _ _ wd v (by simp [offF]) hw hv
  | f :: fs, k + 1, wd, v, pre, R, h, hw, hv => by
    have ih := getVal_field fs k wd v (pre ++ digits f.1 f.2) R (by simpa using h) hw hv
    rw [List.append_assoc] at ih
    rw [encF, List.append_assoc]
    rw [List.length_append, length_digits] at ih
    rw [offF, ← Nat.add_assoc]
    exact ih

theorem fit_in {wd : Nat} {ns : List Int} (h : fitB wd ns = true) (v : Int) (hv : v ∈ ns) : 0 ≤ v ∧ v < 256 ^ wd := fitB_iff.1 h v hv

theorem hdr_back {H : Nat → Int} (hf : hdrF H = true) (n : Nat) : Hv (hdrOf (sumB n (hdrH H))) = Hv H := by
  unfold hdrF at hf
  rw [Bool.and_eq_true] at hf
  obtain ⟨R, hR⟩ : ∃ R, sumB n (hdrH H) = slog ++ (encF [(4, H 0), (2, H 1), (2, H 2)] ++ R) := ⟨_, by simp only [sumB, layB, hdrH, numsB, encF, List.map_cons, List.map_nil, List.flatten_cons, List.flatten_nil, List.append_nil, List.append_assoc]; rfl⟩
  rw [hR]
  have e0 : getVal (slog ++ (encF [(4, H 0), (2, H 1), (2, H 2)] ++ R)) 4 4 = H 0 := getVal_field _ 0 4 (H 0) slog R rfl (by omega) (fit_in hf.1 _ (by simp))
  have e1 : getVal (slog ++ (encF [(4, H 0), (2, H 1), (2, H 2)] ++ R)) 8 2 = H 1 := getVal_field _ 1 2 (H 1) slog R rfl (by omega) (fit_in hf.2 _ (by simp))
  have e2 : getVal (slog ++ (encF [(4, H 0), (2, H 1), (2, H 2)] ++ R)) 10 2 = H 2 := getVal_field _ 2 2 (H 2) slog R rfl (by omega) (fit_in hf.2 _ (by simp))
  simp only [Hv, hdrOf, e0, e1, e2]

theorem hdrH_congr {H G : Nat → Int} (h : Hv H = Hv G) : hdrH H = hdrH G := by
  simp only [Hv, Value.agg.injEq, Array.mk.injEq, List.cons.injEq, Value.int.injEq, true_and, and_true] at h
  unfold hdrH
  rw [h.1, h.2.1, h.2.2]

end Go.Proofs.YtadnlljknocbbaaGreatDoor

