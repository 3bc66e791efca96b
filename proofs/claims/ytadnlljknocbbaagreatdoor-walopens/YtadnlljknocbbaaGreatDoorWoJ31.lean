/- Joined: CRHdr, CTake, CUn, CBackH, CRUnQ, CAns. -/
import Derived.Test.YtadnlljknocbbaaGreatDoorWoJ30
import Derived.Test.YtadnlljknocbbaaGreatDoorWoJ27
import Derived.Test.YtadnlljknocbbaaGreatDoorWoJ24
import Derived.Test.YtadnlljknocbbaaGreatDoorWoJ10
/- Contracts of skerryref06.Header. -/
namespace Go.Proofs.YtadnlljknocbbaaGreatDoor
open Go.RowKit Go.Shelf
set_option linter.unusedVariables false
set_option maxRecDepth 100000

set_option maxRecDepth 100000 in
set_option maxHeartbeats 4000000 in
theorem refHeader_arg (H : Nat → Int) (b : Int) (w : World) (h : ¬ isSize b) :
    Calls Tryz.prog 50 #[Hv H, .int .i64 b] w fun e w' => e = .returned (.tuple #[.slice none 0 0, .int .i64 1]) ∧ Below w.heap.size w w' := by
  have K : Hid (∀ u, Calls Tryz.prog 48 #[.int .i64 b] u fun e w' => e = .returned (.bool false) ∧ u = w') := fun u => size_no b u h
  have HK := hide (Bx.start w (Hc H) 57)
  clear h
  go_enter Tryz.func50, Tryz.ntmps50
  go_wp2_with fail
  go_at_call 48
  refine (unhide K _).mono ?_
  rintro e w1 ⟨rfl, rfl⟩
  clear K
  go_wp2_with fail
  go_ret2
  exact ⟨rfl, HK.out.2.1⟩

theorem hdr_fits (H : Nat → Int) : hdrF H = (fitB 4 [H 0] && (fitB 2 [H 1] && fitB 2 [H 2])) := by
  simp [hdrF, fitB]

set_option maxRecDepth 100000 in
set_option maxHeartbeats 4000000 in
theorem refHeader_value (H : Nat → Int) (b : Int) (w : World) (h : isSize b) (hf : hdrF H = false) :
    Calls Tryz.prog 50 #[Hv H, .int .i64 b] w fun e w' => e = .returned (.tuple #[.slice none 0 0, .int .i64 3]) ∧ Below w.heap.size w w' := by
  have K : Hid (∀ u, Calls Tryz.prog 48 #[.int .i64 b] u fun e w' => e = .returned (.bool true) ∧ u = w') := fun u => size_yes b u h
  have HK := hide (Bx.start w (Hc H) 57)
  have F0 : Hid (∀ u, Calls Tryz.prog 89 #[.int .i64 (H 0), .int .i64 4] u fun e w' => e = .returned (.bool (fitB 4 [H 0])) ∧ u = w') := fun u => fits_any (H 0) 4 u (by omega)
  have F1 : Hid (∀ u, Calls Tryz.prog 89 #[.int .i64 (H 1), .int .i64 2] u fun e w' => e = .returned (.bool (fitB 2 [H 1])) ∧ u = w') := fun u => fits_any (H 1) 2 u (by omega)
  have F2 : Hid (∀ u, Calls Tryz.prog 89 #[.int .i64 (H 2), .int .i64 2] u fun e w' => e = .returned (.bool (fitB 2 [H 2])) ∧ u = w') := fun u => fits_any (H 2) 2 u (by omega)
  rw [hdr_fits] at hf
  clear h
  generalize fitB 4 [H 0] = r0 at *
  generalize fitB 2 [H 1] = r1 at *
  generalize fitB 2 [H 2] = r2 at *
  cases r0 <;> cases r1 <;> cases r2 <;> first | (exact absurd hf (by decide)) | skip
  all_goals (
    clear hf
    go_enter Tryz.func50, Tryz.ntmps50
    go_wp2_with fail
    go_at_call 48
    refine (unhide K _).mono ?_
    rintro e w1 ⟨rfl, rfl⟩
    clear K
    go_wp2_with fail
    go_at_call 89
    refine (unhide F0 _).mono ?_
    rintro e w1 ⟨rfl, rfl⟩
    clear F0
    go_wp2_with fail
    try (
      go_at_call 89
      refine (unhide F1 _).mono ?_
      rintro e w1 ⟨rfl, rfl⟩
      clear F1
      go_wp2_with fail)
    try (
      go_at_call 89
      refine (unhide F2 _).mono ?_
      rintro e w1 ⟨rfl, rfl⟩
      clear F2
      go_wp2_with fail)
    go_ret2
    exact ⟨rfl, HK.out.2.1⟩)

set_option maxRecDepth 100000 in
set_option maxHeartbeats 8000000 in
theorem refHeader_good (H : Nat → Int) (b : Nat) (w : World) (h : isSize (b : Int)) (hf : hdrF H = true) :
    Calls Tryz.prog 50 #[Hv H, .int .i64 (b : Int)] w fun e w' => ∃ a c, e = .returned (.tuple #[.slice a b c, .int .i64 0]) ∧ Hid (Own w.heap.size w' a b c (sumB b (hdrH H))) ∧ Below w.heap.size w w' := by
  have K : Hid (∀ u, Calls Tryz.prog 48 #[.int .i64 (b : Int)] u fun e w' => e = .returned (.bool true) ∧ u = w') := fun u => size_yes b u h
  have HK := hide (Bx.start w (Hc H) 57)
  rw [hdr_fits, Bool.and_eq_true, Bool.and_eq_true] at hf
  obtain ⟨g0, g1, g2⟩ := hf
  have F0 : Hid (∀ u, Calls Tryz.prog 89 #[.int .i64 (H 0), .int .i64 4] u fun e w' => e = .returned (.bool true) ∧ u = w') := fun u => by have := fits_any (H 0) 4 u (by omega); rwa [g0] at this
  have F1 : Hid (∀ u, Calls Tryz.prog 89 #[.int .i64 (H 1), .int .i64 2] u fun e w' => e = .returned (.bool true) ∧ u = w') := fun u => by have := fits_any (H 1) 2 u (by omega); rwa [g1] at this
  have F2 : Hid (∀ u, Calls Tryz.prog 89 #[.int .i64 (H 2), .int .i64 2] u fun e w' => e = .returned (.bool true) ∧ u = w') := fun u => by have := fits_any (H 2) 2 u (by omega); rwa [g2] at this
  have hv0 : 0 ≤ H 0 ∧ H 0 ≤ 4294967296 := by have := fit1 g0; omega
  have hv1 : 0 ≤ H 1 ∧ H 1 ≤ 4294967296 := by have := fit1 g1; omega
  have hv2 : 0 ≤ H 2 ∧ H 2 ≤ 4294967296 := by have := fit1 g2; omega
  have hb64 := size_bd h
  clear h g0 g1 g2
  go_enter Tryz.func50, Tryz.ntmps50
  go_wp2_with fail
  go_at_call 48
  refine (unhide K _).mono ?_
  rintro e w1 ⟨rfl, rfl⟩
  clear K
  go_wp2_with fail
  go_at_call 89
  refine (unhide F0 _).mono ?_
  rintro e w1 ⟨rfl, rfl⟩
  clear F0
  go_wp2_with fail
  go_at_call 89
  refine (unhide F1 _).mono ?_
  rintro e w1 ⟨rfl, rfl⟩
  clear F1
  go_wp2_with fail
  go_at_call 89
  refine (unhide F2 _).mono ?_
  rintro e w1 ⟨rfl, rfl⟩
  clear F2
  go_upto_region 5 with fail
  change Code.wp _ _ _ _ (w.alloc (.cells (Hc H) 57))
  generalize w.alloc (.cells (Hc H) 57) = w1 at *
  have hcv := conv_slog w1
  have HS := hide (src_lit w1 slog (4, 5) (w1.alloc (.cells (slog.map (Value.int .u8)).toArray 5 (4, 5))).heap.size 4 rfl (by omega))
  have HK1 := hide ((unhide HK).alloc (.cells (slog.map (Value.int .u8)).toArray 5 (4, 5)))
  have f0 : (w1.alloc (.cells #[.int .u8 83, .int .u8 76, .int .u8 79, .int .u8 71] 5 (4, 5))).cell? ⟨w.heap.size, 0, none⟩ = some (.int .i64 (H 0)) := HK1.out.1 0 _ rfl
  go_wp2_with fail
  go_at_call 90
  refine (refput_n (w1.alloc (.cells (slog.map (Value.int .u8)).toArray 5 (4, 5))).heap.size _ 4 _ slog 4 (H 0) _ 8 rfl HS.out (Nat.le_refl _) ⟨by omega, by omega⟩ hv0.1 hv0.2 (by omega)).mono ?_
  rintro e w2 ⟨a1, c1, rfl, hO1, hb⟩
  clear f0 hcv HS HK
  generalize w1.alloc (.cells (slog.map (Value.int .u8)).toArray 5 (4, 5)) = W at *
  have HB := hide hb
  have HW := HK1
  have HK := hide (Bx.call HW.out HB.out)
  clear hb HK1
  have f1 := HK.out.1 1 _ rfl
  go_wp2_with fail
  go_at_call 90
  refine (refput_n W.heap.size _ 8 _ _ 2 (H 1) _ 10 rfl (.inl hO1.out) HB.out.size ⟨by omega, by omega⟩ hv1.1 hv1.2 (by omega)).mono ?_
  rintro e w3 ⟨a2, c2, rfl, hO2, hb⟩
  replace HB := hide (HB.out.trans hb)
  replace HK := hide (Bx.call HW.out HB.out)
  clear f1 hb hO1
  have f2 := HK.out.1 2 _ rfl
  go_wp2_with fail
  go_at_call 90
  refine (refput_n W.heap.size _ 10 _ _ 2 (H 2) _ 12 rfl (.inl hO2.out) HB.out.size ⟨by omega, by omega⟩ hv2.1 hv2.2 (by omega)).mono ?_
  rintro e w4 ⟨a3, c3, rfl, hO3, hb⟩
  replace HB := hide (HB.out.trans hb)
  replace HK := hide (Bx.call HW.out HB.out)
  clear f2 hb hO2
  have hl : slog ++ digits 4 (H 0) ++ digits 2 (H 1) ++ digits 2 (H 2) = hdrH H := by simp [hdrH, numsB]
  have KS : Hid (Calls Tryz.prog 91 #[.slice a3 12 c3] w4 fun e w' => e = .returned (.int .i64 ((sumS (hdrH H) : Nat) : Int)) ∧ w4 = w') := by
    have hh := hO3.out.has
    rw [hl] at hh
    exact refSum_any _ 12 _ _ _ hh (by omega) (hdrH_byts H)
  have hS := sumS_lt (hdrH_byts H)
  have HE : Hid (Own W.heap.size w4 a3 12 c3 (hdrH H)) := by
    have := hO3.out
    rwa [hl] at this
  have HQ : Hid (sumB b (hdrH H) = layB b (hdrH H ++ digits 4 ((sumS (hdrH H) : Nat) : Int))) := rfl
  generalize sumS (hdrH H) = S at *
  clear hO3
  go_wp2_with fail
  go_at_call 91
  refine (unhide KS).mono ?_
  rintro e w' ⟨rfl, rfl⟩
  clear KS
  go_wp2_with fail
  go_at_call 90
  refine (refput_n W.heap.size _ 12 _ _ 4 (S : Int) _ 16 rfl (.inl HE.out) HB.out.size ⟨by omega, by omega⟩ (by omega) (by omega) (by omega)).mono ?_
  rintro e wy ⟨ay, cy, rfl, hOy, hb⟩
  replace HB := hide (HB.out.trans hb)
  replace HK := hide (Bx.call HW.out HB.out)
  clear hb HE hS
  go_wp2_with fail
  go_at_call 92
  refine (padded_any W.heap.size ay 16 cy b _ wy hOy.out HB.out.size (by omega) (by omega)).mono ?_
  rintro e wz ⟨az, cz, rfl, hOz, hb⟩
  replace HB := hide (HB.out.trans hb)
  have HF : Hid (Own w.heap.size wz az b cz (sumB b (hdrH H)) ∧ Below w.heap.size w wz) := by
    rw [HQ.out]
    exact ⟨hOz.out.base HW.out.2.1.size, HW.out.2.1.trans (HB.out.mono HW.out.2.1.size)⟩
  clear hb hOz HK HW HB HQ
  go_wp2_with fail
  go_ret2
  exact ⟨az, cz, rfl, HF.out.1, HF.out.2⟩

end Go.Proofs.YtadnlljknocbbaaGreatDoor

/- Contracts of codec.takeHeader and codec.takeSuper. -/
namespace Go.Proofs.YtadnlljknocbbaaGreatDoor
open Go.RowKit Go.Shelf
set_option linter.unusedVariables false
set_option maxRecDepth 100000

/-- What is found in bytes as a header. -/
def hdrOf (zs : List Int) : Nat → Int
  | 0 => getVal zs 4 4
  | 1 => getVal zs 8 2
  | _ => getVal zs 10 2

set_option maxRecDepth 100000 in
set_option maxHeartbeats 4000000 in
theorem takeHeader_any (a : Option Addr) (len cap : Nat) (zs : List Int) (w : World) (hr : Row w.heap.size w a len cap zs) :
    Calls Tryz.prog 126 #[.slice a len cap] w fun e w' => e = .returned (Hv (hdrOf zs)) ∧ Below w.heap.size w w' := by
  have KG : Hid (∀ (at' n : Int) (u : World), at' ≤ 1000 → Below w.heap.size w u → Calls Tryz.prog 144 #[.slice a len cap, .int .i64 at', .int .i64 n] u fun e w' => e = .returned (.int .i64 (getVal zs at' n)) ∧ Below u.heap.size u w') :=
    fun at' n u h1 hb => get_drop a len cap zs at' n u (hr.below hb hb.size) (by omega)
  have HZ := hide (Bl.new w #[.int .i64 0, .int .i64 0, .int .i64 0] 57)
  have HB := hide ((Below.refl _ w).alloc (Nat.le_refl _) (.cells #[.int .i64 0, .int .i64 0, .int .i64 0] 57))
  clear hr
  change Calls Tryz.prog 126 #[.slice a len cap] w fun e w' => e = .returned (.agg #[.int .i64 (getVal zs 4 4), .int .i64 (getVal zs 8 2), .int .i64 (getVal zs 10 2)]) ∧ Below w.heap.size w w'
  go_enter Tryz.func126, Tryz.ntmps126
  go_wp2_with fail
  go_at_call 144
  refine (unhide KG _ _ _ (by omega) HB.out).mono ?_
  rintro e w1 ⟨rfl, hb⟩
  replace HB := hide (bchain HB.out hb (Nat.le_refl _))
  replace HZ := hide (HZ.out.call hb)
  clear hb
  go_wp2_with fail
  go_at_call 144
  refine (unhide KG _ _ _ (by omega) HB.out).mono ?_
  rintro e w2 ⟨rfl, hb⟩
  replace HB := hide (bchain HB.out hb (Nat.le_refl _))
  replace HZ := hide (HZ.out.call hb)
  clear hb
  go_wp2_with fail
  go_at_call 144
  refine (unhide KG _ _ _ (by omega) HB.out).mono ?_
  rintro e w3 ⟨rfl, hb⟩
  replace HB := hide (bchain HB.out hb (Nat.le_refl _))
  replace HZ := hide (HZ.out.call hb)
  clear hb
  have z0 := HZ.out.cell 0 _ rfl
  have z1 := HZ.out.cell 1 _ rfl
  have z2 := HZ.out.cell 2 _ rfl
  have hz := HZ.out.free
  clear KG
  go_wp2_with fail
  have hW : Below w.heap.size w (setAll w3 w.heap.size 0 [.int .i64 (getVal zs 4 4), .int .i64 (getVal zs 8 2), .int .i64 (getVal zs 10 2)]) := below_setAll (Nat.le_refl _) _ _ _ _ HB.out
  have hA : Bl (setAll w3 w.heap.size 0 [.int .i64 (getVal zs 4 4), .int .i64 (getVal zs 8 2), .int .i64 (getVal zs 10 2)]) w.heap.size #[.int .i64 (getVal zs 4 4), .int .i64 (getVal zs 8 2), .int .i64 (getVal zs 10 2)] 57 := setAll_whole [.int .i64 (getVal zs 4 4), .int .i64 (getVal zs 8 2), .int .i64 (getVal zs 10 2)] _ _ HZ.out rfl
  change bodyPost _ _ _ _ _ (setAll w3 w.heap.size 0 [.int .i64 (getVal zs 4 4), .int .i64 (getVal zs 8 2), .int .i64 (getVal zs 10 2)])
  generalize setAll w3 w.heap.size 0 [.int .i64 (getVal zs 4 4), .int .i64 (getVal zs 8 2), .int .i64 (getVal zs 10 2)] = wf at *
  refine bodyPost_ret (v := .agg #[.int .i64 (getVal zs 4 4), .int .i64 (getVal zs 8 2), .int .i64 (getVal zs 10 2)]) ?_ rfl ⟨rfl, hW⟩
  simp [results, Tryz.results126, go_sem, hA.cell 0 _ rfl, hA.cell 1 _ rfl, hA.cell 2 _ rfl]

/-- What is found in bytes as a plan. -/
def supOf (zs : List Int) : Nat → Int := makeP (getVal zs 4 2) (getVal zs 6 2) (getVal zs 8 2) (getVal zs 10 2)

end Go.Proofs.YtadnlljknocbbaaGreatDoor

/- Contracts of codec.Unsuper and codec.Unheader. -/
namespace Go.Proofs.YtadnlljknocbbaaGreatDoor
open Go.RowKit Go.Shelf
set_option linter.unusedVariables false
set_option maxRecDepth 100000

theorem numErr_zero {len : Nat} {at' n : Int} (h : numErr len at' n = 0) : ∃ wd : Nat, n = wd ∧ (wd = 1 ∨ wd = 2 ∨ wd = 4) := by
  rcases numErr_cases len at' n with h' | h' | ⟨_, at0, wd, _, rfl, hw, _⟩
  · omega
  · omega
  · exact ⟨wd, rfl, hw⟩

theorem getVal_bound {zs : List Int} (hz : ∀ z ∈ zs, 0 ≤ z ∧ z ≤ 255) (at' : Int) (n : Nat) : 0 ≤ getVal zs at' n ∧ getVal zs at' n < 256 ^ n := by
  unfold getVal
  have hp : (0 : Int) < 256 ^ n := Int.pow_pos (by omega)
  split
  · have hb := num_bound ((zs.drop at'.toNat).take (n : Int).toNat) (fun z h => hz z (List.mem_of_mem_drop (List.mem_of_mem_take h)))
    refine ⟨hb.1, Int.lt_of_lt_of_le hb.2 ?_⟩
    have hle : ((zs.drop at'.toNat).take (n : Int).toNat).length ≤ n := by rw [List.length_take, Int.toNat_natCast]; omega
    generalize ((zs.drop at'.toNat).take (n : Int).toNat).length = k at hle
    have h1 := Nat.pow_le_pow_right (n := 256) (by omega) hle
    have e1 : ((256 ^ k : Nat) : Int) = 256 ^ k := by rw [Int.natCast_pow]; rfl
    have e2 : ((256 ^ n : Nat) : Int) = 256 ^ n := by rw [Int.natCast_pow]; rfl
    rw [← e1, ← e2]
    exact Int.ofNat_le.2 h1
  · exact ⟨Int.le_refl _, hp⟩

theorem hdrF_of {zs : List Int} (hz : ∀ z ∈ zs, 0 ≤ z ∧ z ≤ 255) : hdrF (hdrOf zs) = true := by
  unfold hdrF
  rw [Bool.and_eq_true, fitB_iff, fitB_iff]
  refine ⟨fun v hv => ?_, fun v hv => ?_⟩
  · simp only [List.mem_cons, List.not_mem_nil, or_false] at hv
    subst hv
    exact getVal_bound hz 4 4
  · simp only [List.mem_cons, List.not_mem_nil, or_false] at hv
    rcases hv with rfl | rfl
    · exact getVal_bound hz 8 2
    · exact getVal_bound hz 10 2

set_option maxRecDepth 100000 in
set_option maxHeartbeats 4000000 in
theorem unheader1 (H : Nat → Int) (g1 : Nat) (a : Option Addr) (len cap : Nat) (w : World) (hc : w.cell? ⟨g1, 0, none⟩ = some (.slice a len cap)) (q : Int) (S : Value → World → Prop)
    (K : Hid (∀ u, Below w.heap.size w u → Calls Tryz.prog 115 #[Hv H, .int .i64 (len : Int)] u fun e w' => ∃ a' n' c', e = .returned (.tuple #[.slice a' n' c', .int .i64 q]) ∧ Hid (S (.slice a' n' c') w') ∧ Below u.heap.size u w')) :
    Calls Tryz.prog 127 #[Hv H, .pointer (some ⟨g1, 0, none⟩)] w fun e w' => ∃ a' n' c', e = .returned (.tuple #[.slice a' n' c', .int .i64 q]) ∧ Hid (S (.slice a' n' c') w') ∧ Below w.heap.size w w' := by
  have hb0 : Below w.heap.size w (w.alloc (.cells (Hc H) 57)) := (Below.refl _ w).alloc (Nat.le_refl _) _
  have hc1 : (w.alloc (.cells (Hc H) 57)).cell? ⟨g1, 0, none⟩ = some (.slice a len cap) := (hb0.cell (cell_block_lt hc)).trans hc
  have K' := hide (K.out _ hb0)
  have HB := hide hb0
  clear hc K hb0
  go_enter Tryz.func127, Tryz.ntmps127
  go_wp2_with fail
  go_at_call 115
  refine (unhide K').mono ?_
  rintro e w1 ⟨a', n', c', rfl, hS, hb⟩
  replace HB := hide (bchain HB.out hb (Nat.le_refl _))
  clear hb K' hc1
  go_wp2_with fail
  go_ret2
  exact ⟨a', n', c', rfl, hS, HB.out⟩

theorem cells_len {zs : List Int} {b : Nat} {L : List Int} (hL : L.length = 12) (hb : 16 ≤ b) : (sumB b L).length = b := by
  unfold sumB
  exact length_layB (by rw [List.length_append, length_digits, hL]; omega)

theorem sumB_byts {b : Nat} {L : List Int} (h : Byts L) : ∀ z ∈ sumB b L, 0 ≤ z ∧ z ≤ 255 := by
  refine layB_byte _ _ fun z hz => ?_
  rcases List.mem_append.1 hz with hz | hz
  · exact h z hz
  · exact digits_byte _ _ z hz

set_option maxRecDepth 100000 in
set_option maxHeartbeats 4000000 in
theorem unheader_w (H : Nat → Int) (q : Int) (a : Option Addr) (len cap : Nat) (w : World) (K : Hid (∀ u, Below w.heap.size w u → u.cell? ⟨w.heap.size, 0, none⟩ = some (.slice a len cap) → Calls Tryz.prog 125 #[.slice a len cap, .func (.func 126) #[] #[], .func (.func 127) #[] #[.pointer (some ⟨w.heap.size, 0, none⟩)]] u fun e w' => e = .returned (.tuple #[Hv H, .int .i64 q]) ∧ Below u.heap.size u w')) :
    Calls Tryz.prog 104 #[.slice a len cap] w fun e w' => e = .returned (.tuple #[Hv H, .int .i64 q]) ∧ Below w.heap.size w w' := by
  have hb1 : Below w.heap.size w (w.alloc (.cells #[.slice a len cap] 50)) := (Below.refl _ w).alloc (Nat.le_refl _) _
  have hb2 : Below w.heap.size w ((w.alloc (.cells #[.slice a len cap] 50)).alloc (.cells #[.int .i64 0, .int .i64 0, .int .i64 0] 57)) := hb1.alloc hb1.size _
  have HZ : Hid (Bl ((w.alloc (.cells #[.slice a len cap] 50)).alloc (.cells #[.int .i64 0, .int .i64 0, .int .i64 0] 57)) (w.heap.size + 1) #[.int .i64 0, .int .i64 0, .int .i64 0] 57) := by
    have := Bl.new (w.alloc (.cells #[.slice a len cap] 50)) #[.int .i64 0, .int .i64 0, .int .i64 0] 57
    have e : (w.alloc (.cells #[.slice a len cap] 50)).heap.size = w.heap.size + 1 := by simp
    rw [e] at this
    exact this
  have hc : ((w.alloc (.cells #[.slice a len cap] 50)).alloc (.cells #[.int .i64 0, .int .i64 0, .int .i64 0] 57)).cell? ⟨w.heap.size, 0, none⟩ = some (.slice a len cap) := ((Bl.new w #[.slice a len cap] 50).alloc _).cell 0 _ rfl
  have K' := hide (K.out _ hb2 hc)
  have HB := hide hb2
  clear K hb1 hb2
  go_enter Tryz.func104, Tryz.ntmps104
  go_wp2_with fail
  go_at_call 125
  refine (unhide K').mono ?_
  rintro e w1 ⟨rfl, hb⟩
  replace HB := hide (bchain HB.out hb (Nat.le_refl _))
  replace HZ := hide (HZ.out.call hb)
  clear hb K' hc
  have z0 := HZ.out.cell 0 _ rfl
  have z1 := HZ.out.cell 1 _ rfl
  have z2 := HZ.out.cell 2 _ rfl
  have hz := HZ.out.free
  go_wp2_with fail
  have hW : Below w.heap.size w (setAll w1 (w.heap.size + 1) 0 [.int .i64 (H 0), .int .i64 (H 1), .int .i64 (H 2)]) := below_setAll (by omega) _ _ _ _ HB.out
  have hA : Bl (setAll w1 (w.heap.size + 1) 0 [.int .i64 (H 0), .int .i64 (H 1), .int .i64 (H 2)]) (w.heap.size + 1) #[.int .i64 (H 0), .int .i64 (H 1), .int .i64 (H 2)] 57 := setAll_whole [.int .i64 (H 0), .int .i64 (H 1), .int .i64 (H 2)] _ _ HZ.out rfl
  change bodyPost _ _ _ _ _ (setAll w1 (w.heap.size + 1) 0 [.int .i64 (H 0), .int .i64 (H 1), .int .i64 (H 2)])
  generalize setAll w1 (w.heap.size + 1) 0 [.int .i64 (H 0), .int .i64 (H 1), .int .i64 (H 2)] = wf at *
  refine bodyPost_ret (v := .tuple #[Hv H, .int .i64 q]) ?_ rfl ⟨rfl, hW⟩
  simp [results, Tryz.results104, go_sem, hA.cell 0 _ rfl, hA.cell 1 _ rfl, hA.cell 2 _ rfl]

/-- **codec.Unheader**, of bytes that are a header's. -/
theorem unheader_yes (a : Option Addr) (len cap : Nat) (zs : List Int) (w : World) (hr : Row w.heap.size w a len cap zs) (hT : Tab w) (h : isSize (len : Int)) (he : sumB len (hdrH (hdrOf zs)) = zs) :
    Calls Tryz.prog 104 #[.slice a len cap] w fun e w' => e = .returned (.tuple #[Hv (hdrOf zs), .int .i64 0]) ∧ Below w.heap.size w w' := by
  refine unheader_w (hdrOf zs) 0 a len cap w fun u hb hc => ?_
  have hru := hr.below hb hb.size
  have hTu := hT.below hb (tab_size hT)
  refine readH_same (hdrOf zs) w.heap.size a len cap u zs zs hru.has hr.byts hr.byts (by simp) (fun u2 hb2 => takeHeader_any a len cap zs u2 (hru.below hb2 hb2.size)) fun u2 hb2 => ?_
  refine (unheader1 (hdrOf zs) w.heap.size a len cap u2 ((hb2.cell (cell_block_lt hc)).trans hc) 0 (fun v w' => ∃ a' n' c', v = .slice a' n' c' ∧ Has w' a' n' zs) fun u3 hb3 => ?_).mono ?_
  · refine (header_good (hdrOf zs) len u3 h (hdrF_of hr.byts) ((hTu.below hb2 (tab_size hTu)).below hb3 (tab_size (hTu.below hb2 (tab_size hTu))))).mono ?_
    rintro e w' ⟨g, rfl, hg, hB, hb⟩
    refine ⟨_, _, _, rfl, ⟨_, _, _, rfl, ?_⟩, hb⟩
    rw [he] at hB
    exact hB.out.has hr.1
  · rintro e w' ⟨a', n', c', rfl, hS, hb⟩
    obtain ⟨a2, n2, c2, e2, hh⟩ := hS.out
    cases e2
    exact ⟨_, _, _, rfl, hh, hb⟩

/-- **codec.Unheader**, of other bytes. -/
theorem unheader_no (a : Option Addr) (len cap : Nat) (zs : List Int) (w : World) (hr : Row w.heap.size w a len cap zs) (hT : Tab w) (h : ¬ (isSize (len : Int) ∧ sumB len (hdrH (hdrOf zs)) = zs)) :
    Calls Tryz.prog 104 #[.slice a len cap] w fun e w' => e = .returned (.tuple #[Hv zeroH, .int .i64 4]) ∧ Below w.heap.size w w' := by
  refine unheader_w zeroH 4 a len cap w fun u hb hc => ?_
  have hru := hr.below hb hb.size
  have hTu := hT.below hb (tab_size hT)
  have HT : Hid (∀ u2, Below u.heap.size u u2 → Calls Tryz.prog 126 #[.slice a len cap] u2 fun e w' => e = .returned (Hv (hdrOf zs)) ∧ Below u2.heap.size u2 w') := fun u2 hb2 => takeHeader_any a len cap zs u2 (hru.below hb2 hb2.size)
  by_cases hs : isSize (len : Int)
  · have he : sumB len (hdrH (hdrOf zs)) ≠ zs := fun e => h ⟨hs, e⟩
    refine readH_other (hdrOf zs) w.heap.size a len cap u (sumB len (hdrH (hdrOf zs))) zs hru.has hr.byts (sumB_byts (hdrH_byts _)) (decide_eq_false he) HT fun u2 hb2 => ?_
    refine (unheader1 (hdrOf zs) w.heap.size a len cap u2 ((hb2.cell (cell_block_lt hc)).trans hc) 0 (fun v w' => ∃ a' n' c', v = .slice a' n' c' ∧ Has w' a' n' (sumB len (hdrH (hdrOf zs)))) fun u3 hb3 => ?_).mono ?_
    · refine (header_good (hdrOf zs) len u3 hs (hdrF_of hr.byts) ((hTu.below hb2 (tab_size hTu)).below hb3 (tab_size (hTu.below hb2 (tab_size hTu))))).mono ?_
      rintro e w' ⟨g, rfl, hg, hB, hb⟩
      exact ⟨_, _, _, rfl, ⟨_, _, _, rfl, hB.out.has (cells_len (zs := zs) (hdrH_length _) (by have := size_bd hs; omega))⟩, hb⟩
    · rintro e w' ⟨a', n', c', rfl, hS, hb⟩
      obtain ⟨a2, n2, c2, e2, hh⟩ := hS.out
      cases e2
      exact ⟨_, _, _, rfl, hh, hb⟩
  · refine readH_err (hdrOf zs) w.heap.size a len cap 1 u rfl HT fun u2 hb2 => ?_
    refine (unheader1 (hdrOf zs) w.heap.size a len cap u2 ((hb2.cell (cell_block_lt hc)).trans hc) 1 (fun v w' => v = .slice none 0 0) fun u3 hb3 => ?_).mono ?_
    · refine (header_arg (hdrOf zs) len u3 hs).mono ?_
      rintro e w' ⟨rfl, hb⟩
      exact ⟨_, _, _, rfl, rfl, hb⟩
    · rintro e w' ⟨a', n', c', rfl, hS, hb⟩
      have := hS.out
      rw [this]
      exact ⟨rfl, hb⟩

theorem sup_size {P : Nat → Int} (h : checkE P = 0) : P 0 = (((P 0).toNat : Nat) : Int) := by
  have := size_bd (check_bounds h).1
  omega

end Go.Proofs.YtadnlljknocbbaaGreatDoor

/- What is written as a header is read again. -/
namespace Go.Proofs.YtadnlljknocbbaaGreatDoor
open Go.RowKit Go.Shelf
set_option linter.unusedVariables false
set_option maxRecDepth 100000

theorem getVal_mid (A B : List Int) (at0 wd : Nat) (v : Int) (hA : A.length = at0) (hw : wd = 1 ∨ wd = 2 ∨ wd = 4) (h : 0 ≤ v ∧ v < 256 ^ wd) : getVal (A ++ (digits wd v ++ B)) (at0 : Int) (wd : Int) = v := by
  unfold getVal
  rw [if_pos (numErr_ok hw (by rw [List.length_append, List.length_append, length_digits, hA]; omega))]
  rw [Int.toNat_natCast, Int.toNat_natCast, List.drop_append_of_le_length (by omega), List.drop_of_length_le (by omega), List.nil_append, List.take_append_of_le_length (by rw [length_digits]; omega), List.take_of_length_le (by rw [length_digits]; omega)]
  exact num_digits wd v h.1 h.2

/-- Numbers one behind the other, each with its width. -/
def encF : List (Nat × Int) → List Int
  | [] => []
  | f :: fs => digits f.1 f.2 ++ encF fs

def offF : List (Nat × Int) → Nat → Nat
  | [], _ => 0
  | _, 0 => 0
  | f :: fs, k + 1 => f.1 + offF fs k

theorem getVal_field : ∀ (fs : List (Nat × Int)) (k : Nat) (wd : Nat) (v : Int) (pre R : List Int), fs[k]? = some (wd, v) → (wd = 1 ∨ wd = 2 ∨ wd = 4) → 0 ≤ v ∧ v < 256 ^ wd → getVal (pre ++ (encF fs ++ R)) ((pre.length + offF fs k : Nat) : Int) (wd : Int) = v
  | [], k, wd, v, pre, R, h, hw, hv => by cases h
  | f :: fs, 0, wd, v, pre, R, h, hw, hv => by
    simp at h
    subst h
    rw [encF, List.append_assoc]
    exact getVal_mid pre _ _ wd v (by simp [offF]) hw hv
  | f :: fs, k + 1, wd, v, pre, R, h, hw, hv => by
    have ih := getVal_field fs k wd v (pre ++ digits f.1 f.2) R (by simpa using h) hw hv
    rw [List.append_assoc] at ih
    rw [encF, List.append_assoc]
    rw [List.length_append, length_digits] at ih
    rw [offF, ← Nat.add_assoc]
    exact ih

theorem fit_in {wd : Nat} {ns : List Int} (h : fitB wd ns = true) (v : Int) (hv : v ∈ ns) : 0 ≤ v ∧ v < 256 ^ wd := fitB_iff.1 h v hv

theorem hdr_back {H : Nat → Int} (hf : hdrF H = true) (n : Nat) : Hv (hdrOf (sumB n (hdrH H))) = Hv H := by
  unfold hdrF at hf
  rw [Bool.and_eq_true] at hf
  obtain ⟨R, hR⟩ : ∃ R, sumB n (hdrH H) = slog ++ (encF [(4, H 0), (2, H 1), (2, H 2)] ++ R) := ⟨_, by simp only [sumB, layB, hdrH, numsB, encF, List.map_cons, List.map_nil, List.flatten_cons, List.flatten_nil, List.append_nil, List.append_assoc]; rfl⟩
  rw [hR]
  have e0 : getVal (slog ++ (encF [(4, H 0), (2, H 1), (2, H 2)] ++ R)) 4 4 = H 0 := getVal_field _ 0 4 (H 0) slog R rfl (by omega) (fit_in hf.1 _ (by simp))
  have e1 : getVal (slog ++ (encF [(4, H 0), (2, H 1), (2, H 2)] ++ R)) 8 2 = H 1 := getVal_field _ 1 2 (H 1) slog R rfl (by omega) (fit_in hf.2 _ (by simp))
  have e2 : getVal (slog ++ (encF [(4, H 0), (2, H 1), (2, H 2)] ++ R)) 10 2 = H 2 := getVal_field _ 2 2 (H 2) slog R rfl (by omega) (fit_in hf.2 _ (by simp))
  simp only [Hv, hdrOf, e0, e1, e2]

theorem hdrH_congr {H G : Nat → Int} (h : Hv H = Hv G) : hdrH H = hdrH G := by
  simp only [Hv, Value.agg.injEq, Array.mk.injEq, List.cons.injEq, Value.int.injEq, true_and, and_true] at h
  unfold hdrH
  rw [h.1, h.2.1, h.2.2]

end Go.Proofs.YtadnlljknocbbaaGreatDoor

/- Contract of skerryref06.Unsuper. -/
namespace Go.Proofs.YtadnlljknocbbaaGreatDoor
open Go.RowKit Go.Shelf
set_option linter.unusedVariables false
set_option maxRecDepth 100000

theorem str_neq {xs ys : List Int} (hx : ∀ z ∈ xs, 0 ≤ z ∧ z ≤ 255) (hy : ∀ z ∈ ys, 0 ≤ z ∧ z ≤ 255) (r : Bool) (h : decide (xs = ys) = !r) : (!((strOfNums xs).toList == (strOfNums ys).toList)) = r := by
  rw [str_eq_decide hx hy, h, Bool.not_not]

set_option maxRecDepth 100000 in
set_option maxHeartbeats 4000000 in
theorem refUnheader_size (a : Option Addr) (len cap : Nat) (w : World) (hl : len ≤ 140737488351232) (h : ¬ isSize (len : Int)) :
    Calls Tryz.prog 94 #[.slice a len cap] w fun e w' => e = .returned (.tuple #[.agg #[.int .i64 0, .int .i64 0, .int .i64 0], .int .i64 4]) ∧ Below w.heap.size w w' := by
  have K : Hid (∀ u, Calls Tryz.prog 48 #[.int .i64 (len : Int)] u fun e w' => e = .returned (.bool false) ∧ u = w') := fun u => size_no _ u h
  have HZ := hide (Bl.new w #[.int .i64 0, .int .i64 0, .int .i64 0] 57)
  have HB := hide ((Below.refl _ w).alloc (Nat.le_refl _) (.cells #[.int .i64 0, .int .i64 0, .int .i64 0] 57))
  clear h
  go_enter Tryz.func94, Tryz.ntmps94
  go_wp2_with fail
  go_at_call 48
  refine (unhide K _).mono ?_
  rintro e w' ⟨rfl, rfl⟩
  clear K
  have hA := HZ.out
  go_wp2_with fail
  change bodyPost _ _ _ _ _ (w.alloc (.cells #[.int .i64 0, .int .i64 0, .int .i64 0] 57))
  have hW := HB.out
  generalize w.alloc (.cells #[.int .i64 0, .int .i64 0, .int .i64 0] 57) = wf at *
  refine bodyPost_ret (v := .tuple #[.agg #[.int .i64 0, .int .i64 0, .int .i64 0], .int .i64 4]) ?_ rfl ⟨rfl, hW⟩
  simp [results, Tryz.results94, go_sem, hA.cell 0 _ rfl, hA.cell 1 _ rfl, hA.cell 2 _ rfl]

set_option maxRecDepth 100000 in
set_option maxHeartbeats 8000000 in
theorem refUnheader_cmp (a : Option Addr) (len cap : Nat) (zs : List Int) (w : World) (hr : Row w.heap.size w a len cap zs) (h : isSize (len : Int)) (r : Bool) (hd : decide (sumB len (hdrH (hdrOf zs)) = zs) = !r) :
    Calls Tryz.prog 94 #[.slice a len cap] w fun e w' => e = .returned (.tuple #[if r then .agg #[.int .i64 0, .int .i64 0, .int .i64 0] else Hv (hdrOf zs), .int .i64 (if r then 4 else 0)]) ∧ Below w.heap.size w w' := by
  have hl := hr.2.2.1.1
  have K : Hid (∀ u, Calls Tryz.prog 48 #[.int .i64 (len : Int)] u fun e w' => e = .returned (.bool true) ∧ u = w') := fun u => size_yes _ u h
  have KG : Hid (∀ (at' n : Int) (u : World), at' ≤ 1000 → Below w.heap.size w u → Calls Tryz.prog 118 #[.slice a len cap, .int .i64 at', .int .i64 n] u fun e w' => e = .returned (.int .i64 (getVal zs at' n)) ∧ u = w') :=
    fun at' n u h1 hb => num_drop0 a len cap zs at' n u (hr.below hb hb.size) (by omega)
  have KH : Hid (∀ u, Below w.heap.size w u → Calls Tryz.prog 50 #[Hv (hdrOf zs), .int .i64 (len : Int)] u fun e w' => ∃ a' c', e = .returned (.tuple #[.slice a' len c', .int .i64 0]) ∧ (∀ n, (convert 50 9 (.slice a' len c')).run Tryz.prog (w'.drewN n) = .ok (.string (strOfNums (sumB len (hdrH (hdrOf zs))))) (w'.drewN n)) ∧ (convert 50 9 (.slice a' len c')).run Tryz.prog w' = .ok (.string (strOfNums (sumB len (hdrH (hdrOf zs))))) w' ∧ (convert 50 9 (.slice a len cap)).run Tryz.prog w' = .ok (.string (strOfNums zs)) w' ∧ Below u.heap.size u w') := by
    intro u hb
    refine (refHeader_good (hdrOf zs) len u h (hdrF_of hr.byts)).mono ?_
    rintro e w' ⟨a', c', rfl, hO, hb'⟩
    have hru := (hr.below hb hb.size).below hb' hb'.size
    exact ⟨a', c', rfl, fun n => (hO.out.has.drewN n).conv c', hO.out.has.conv c', hru.has.conv cap, hb'⟩
  have hne := str_neq (sumB_byts (b := len) (hdrH_byts (hdrOf zs))) hr.byts r hd
  have HZ := hide (Bl.new w #[.int .i64 0, .int .i64 0, .int .i64 0] 57)
  have HB := hide ((Below.refl _ w).alloc (Nat.le_refl _) (.cells #[.int .i64 0, .int .i64 0, .int .i64 0] 57))
  clear h hr hd
  generalize strOfNums (sumB len (hdrH (hdrOf zs))) = S1 at *
  generalize strOfNums zs = S2 at *
  go_enter Tryz.func94, Tryz.ntmps94
  go_wp2_with fail
  go_at_call 48
  refine (unhide K _).mono ?_
  rintro e w' ⟨rfl, rfl⟩
  clear K
  go_wp2_with fail
  go_at_call 118
  refine (unhide KG _ _ _ (by omega) HB.out).mono ?_
  rintro e w' ⟨rfl, rfl⟩
  go_wp2_with fail
  go_at_call 118
  refine (unhide KG _ _ _ (by omega) HB.out).mono ?_
  rintro e w' ⟨rfl, rfl⟩
  go_wp2_with fail
  go_at_call 118
  refine (unhide KG _ _ _ (by omega) HB.out).mono ?_
  rintro e w' ⟨rfl, rfl⟩
  clear KG
  replace HZ := hide (HZ.out.alloc (.cells (Hc (hdrOf zs)) 57))
  replace HB := hide (HB.out.alloc HB.out.size (.cells (Hc (hdrOf zs)) 57))
  have HV := hide (Bl.new (w.alloc (.cells #[.int .i64 0, .int .i64 0, .int .i64 0] 57)) (Hc (hdrOf zs)) 57)
  go_upto_region 4 with fail
  change Code.wp _ _ _ _ ((w.alloc (.cells #[.int .i64 0, .int .i64 0, .int .i64 0] 57)).alloc (.cells (Hc (hdrOf zs)) 57))
  have e1 : (w.alloc (.cells #[.int .i64 0, .int .i64 0, .int .i64 0] 57)).heap.size = w.heap.size + 1 := by simp
  rw [e1] at HV
  generalize (w.alloc (.cells #[.int .i64 0, .int .i64 0, .int .i64 0] 57)).alloc (.cells (Hc (hdrOf zs)) 57) = W at *
  clear e1
  generalize hH : hdrOf zs = H at *
  have HH := hide hH
  clear hH
  have v0 := HV.out.cell 0 _ rfl
  have v1 := HV.out.cell 1 _ rfl
  have v2 := HV.out.cell 2 _ rfl
  go_wp2_with fail
  go_at_call 50
  refine (unhide KH _ HB.out).mono ?_
  rintro e w2 ⟨a', c', rfl, cvn, cv1, cv2, hb⟩
  replace HB := hide (bchain HB.out hb (Nat.le_refl _))
  replace HZ := hide (HZ.out.call hb)
  replace HV := hide (HV.out.call hb)
  clear hb KH cvn v0 v1 v2
  have hz := HZ.out.free
  have v0 := HV.out.cell 0 _ rfl
  have v1 := HV.out.cell 1 _ rfl
  have v2 := HV.out.cell 2 _ rfl
  have z0 := HZ.out.cell 0 _ rfl
  have z1 := HZ.out.cell 1 _ rfl
  have z2 := HZ.out.cell 2 _ rfl
  cases r
  · go_wp2_with fail
    have hW : Below w.heap.size w (setAll w2 (w.heap.size) 0 [.int .i64 (H 0), .int .i64 (H 1), .int .i64 (H 2)]) := below_setAll (by omega) _ _ _ _ HB.out
    have hA : Bl (setAll w2 (w.heap.size) 0 [.int .i64 (H 0), .int .i64 (H 1), .int .i64 (H 2)]) (w.heap.size) #[.int .i64 (H 0), .int .i64 (H 1), .int .i64 (H 2)] 57 := setAll_whole [.int .i64 (H 0), .int .i64 (H 1), .int .i64 (H 2)] _ _ HZ.out rfl
    change bodyPost _ _ _ _ _ (setAll w2 (w.heap.size) 0 [.int .i64 (H 0), .int .i64 (H 1), .int .i64 (H 2)])
    generalize setAll w2 (w.heap.size) 0 [.int .i64 (H 0), .int .i64 (H 1), .int .i64 (H 2)] = wf at *
    refine bodyPost_ret (v := .tuple #[Hv H, .int .i64 0]) ?_ rfl ⟨by first | rfl | simp only [HH.out], hW⟩
    simp [results, Tryz.results94, go_sem, hA.cell 0 _ rfl, hA.cell 1 _ rfl, hA.cell 2 _ rfl]

  · go_wp2_with fail
    have hW : Below w.heap.size w (setAll w2 (w.heap.size) 0 [.int .i64 0, .int .i64 0, .int .i64 0]) := below_setAll (by omega) _ _ _ _ HB.out
    have hA : Bl (setAll w2 (w.heap.size) 0 [.int .i64 0, .int .i64 0, .int .i64 0]) (w.heap.size) #[.int .i64 0, .int .i64 0, .int .i64 0] 57 := setAll_whole [.int .i64 0, .int .i64 0, .int .i64 0] _ _ HZ.out rfl
    change bodyPost _ _ _ _ _ (setAll w2 (w.heap.size) 0 [.int .i64 0, .int .i64 0, .int .i64 0])
    generalize setAll w2 (w.heap.size) 0 [.int .i64 0, .int .i64 0, .int .i64 0] = wf at *
    refine bodyPost_ret (v := .tuple #[.agg #[.int .i64 0, .int .i64 0, .int .i64 0], .int .i64 4]) ?_ rfl ⟨by first | rfl | simp only [HH.out], hW⟩
    simp [results, Tryz.results94, go_sem, hA.cell 0 _ rfl, hA.cell 1 _ rfl, hA.cell 2 _ rfl]

theorem check_made {b bl ino lg : Int} (h : makeE b bl ino lg = 0) : checkE (makeP b bl ino lg) = 0 := by
  rw [makeP_ok h]
  have e : makeP (planOf b bl ino lg 0) (planOf b bl ino lg 1) (planOf b bl ino lg 2) (planOf b bl ino lg 3) = planOf b bl ino lg := makeP_ok h
  exact checkE_ok h (fun k _ => by rw [e])

theorem check_zeroP : checkE zeroP = 4 := checkE_bad (by rw [makeE_bad (.inl (by unfold isSize zeroP; omega))]; omega)

end Go.Proofs.YtadnlljknocbbaaGreatDoor

/- What program and reference answer alike: superblocks and heads. -/
namespace Go.Proofs.YtadnlljknocbbaaGreatDoor
open Go.RowKit Go.Shelf
set_option linter.unusedVariables false
set_option maxRecDepth 100000

/-- A writer's answer: these bytes, this error. -/
def WA (f : FuncId) (args : Array Value) (E : Int) (n : Nat) (L : List Int) (u : World) : Prop :=
  Calls Tryz.prog f args u fun e w' => ∃ a c, e = .returned (.tuple #[.slice a n c, .int .i64 E]) ∧ Hid (Has w' a n L) ∧ Below u.heap.size u w'

theorem header_ans (H : Nat → Int) (b : Int) : ∃ E n L, ∀ u, Tab u → WA 115 #[Hv H, .int .i64 b] E n L u ∧ WA 50 #[Hv H, .int .i64 b] E n L u := by
  by_cases h : isSize b
  · obtain ⟨k, rfl⟩ := Int.eq_ofNat_of_zero_le (show 0 ≤ b by have := size_bd h; omega)
    by_cases hf : hdrF H = true
    · refine ⟨0, k, sumB k (hdrH H), fun u hT => ⟨?_, ?_⟩⟩
      · refine (header_good H k u h hf hT).mono ?_
        rintro e w' ⟨g, rfl, hg, hB, hb⟩
        exact ⟨_, _, rfl, hB.out.has (cells_len (zs := []) (hdrH_length _) (by have := size_bd h; omega)), hb⟩
      · refine (refHeader_good H k u h hf).mono ?_
        rintro e w' ⟨a, c, rfl, hO, hb⟩
        exact ⟨_, _, rfl, hO.out.has, hb⟩
    · have hf' : hdrF H = false := by simpa using hf
      refine ⟨3, 0, [], fun u hT => ⟨?_, ?_⟩⟩
      · refine (header_value H k u h hf').mono ?_
        rintro e w' ⟨rfl, hb⟩
        exact ⟨_, _, rfl, Has.nil _, hb⟩
      · refine (refHeader_value H k u h hf').mono ?_
        rintro e w' ⟨rfl, hb⟩
        exact ⟨_, _, rfl, Has.nil _, hb⟩
  · refine ⟨1, 0, [], fun u hT => ⟨?_, ?_⟩⟩
    · refine (header_arg H b u h).mono ?_
      rintro e w' ⟨rfl, hb⟩
      exact ⟨_, _, rfl, Has.nil _, hb⟩
    · refine (refHeader_arg H b u h).mono ?_
      rintro e w' ⟨rfl, hb⟩
      exact ⟨_, _, rfl, Has.nil _, hb⟩

/-- A reader's answer. -/
def RA (f : FuncId) (args : Array Value) (v : Value) (q : Int) (u : World) : Prop :=
  Calls Tryz.prog f args u fun e w' => e = .returned (.tuple #[v, .int .i64 q]) ∧ Below u.heap.size u w'

theorem unheader_ans (a : Option Addr) (len cap : Nat) (zs : List Int) : ∃ H q, ∀ u, Tab u → Row u.heap.size u a len cap zs → RA 104 #[.slice a len cap] (Hv H) q u ∧ RA 94 #[.slice a len cap] (Hv H) q u := by
  by_cases h : isSize (len : Int) ∧ sumB len (hdrH (hdrOf zs)) = zs
  · refine ⟨hdrOf zs, 0, fun u hT hr => ⟨unheader_yes a len cap zs u hr hT h.1 h.2, ?_⟩⟩
    exact refUnheader_cmp a len cap zs u hr h.1 false (by simp [h.2])
  · refine ⟨zeroH, 4, fun u hT hr => ⟨unheader_no a len cap zs u hr hT h, ?_⟩⟩
    by_cases hs : isSize (len : Int)
    · exact refUnheader_cmp a len cap zs u hr hs true (by simp; exact fun e => h ⟨hs, e⟩)
    · exact refUnheader_size a len cap u hr.2.2.1.1 hs

end Go.Proofs.YtadnlljknocbbaaGreatDoor

