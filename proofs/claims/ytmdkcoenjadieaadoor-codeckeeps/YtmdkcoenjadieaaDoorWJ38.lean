/- Joined: CRHdr, CTake. -/
import Derived.Test.YtmdkcoenjadieaaDoorWJ36
import Derived.Test.YtmdkcoenjadieaaDoorWCRSup
import Derived.Test.YtmdkcoenjadieaaDoorWJ29
import Derived.Test.YtmdkcoenjadieaaDoorWJ26
import Derived.Test.YtmdkcoenjadieaaDoorWJ34
import Derived.Test.YtmdkcoenjadieaaDoorWJ18
/- Contracts of skerryref06.Header. -/
namespace Go.Proofs.YtmdkcoenjadieaaDoor
open Go.RowKit Go.Shelf
set_option linter.unusedVariables false
set_option maxRecDepth 100000

set_option maxHeartbeats 4000000 in
theorem refHeader_arg (H : Nat → Int) (b : Int) (w : World) (h : ¬ isSize b) :
    Calls Tryd.prog 12 #[Hv H, .int .i64 b] w fun e w' => e = .returned (.tuple #[.slice none 0 0, .int .i64 1]) ∧ Below w.heap.size w w' := by
  have K : Hid (∀ u, Calls Tryd.prog 45 #[.int .i64 b] u fun e w' => e = .returned (.bool false) ∧ u = w') := fun u => size_no b u h
  have HK := hide (Bx.start w (Hc H) 25)
  clear h
  go_enter Tryd.func12, Tryd.ntmps12
  go_wp2_with fail
  go_at_call 45
  refine (unhide K _).mono ?_
  rintro e w1 ⟨rfl, rfl⟩
  clear K
  go_wp2_with fail
  go_ret2
  exact ⟨rfl, HK.out.2.1⟩

theorem hdr_fits (H : Nat → Int) : hdrF H = (fitB 4 [H 0] && (fitB 2 [H 1] && fitB 2 [H 2])) := by
  simp [hdrF, fitB]

set_option maxHeartbeats 4000000 in
theorem refHeader_value (H : Nat → Int) (b : Int) (w : World) (h : isSize b) (hf : hdrF H = false) :
    Calls Tryd.prog 12 #[Hv H, .int .i64 b] w fun e w' => e = .returned (.tuple #[.slice none 0 0, .int .i64 3]) ∧ Below w.heap.size w w' := by
  have K : Hid (∀ u, Calls Tryd.prog 45 #[.int .i64 b] u fun e w' => e = .returned (.bool true) ∧ u = w') := fun u => size_yes b u h
  have HK := hide (Bx.start w (Hc H) 25)
  have F0 : Hid (∀ u, Calls Tryd.prog 46 #[.int .i64 (H 0), .int .i64 4] u fun e w' => e = .returned (.bool (fitB 4 [H 0])) ∧ u = w') := fun u => fits_any (H 0) 4 u (by omega)
  have F1 : Hid (∀ u, Calls Tryd.prog 46 #[.int .i64 (H 1), .int .i64 2] u fun e w' => e = .returned (.bool (fitB 2 [H 1])) ∧ u = w') := fun u => fits_any (H 1) 2 u (by omega)
  have F2 : Hid (∀ u, Calls Tryd.prog 46 #[.int .i64 (H 2), .int .i64 2] u fun e w' => e = .returned (.bool (fitB 2 [H 2])) ∧ u = w') := fun u => fits_any (H 2) 2 u (by omega)
  rw [hdr_fits] at hf
  clear h
  generalize fitB 4 [H 0] = r0 at *
  generalize fitB 2 [H 1] = r1 at *
  generalize fitB 2 [H 2] = r2 at *
  cases r0 <;> cases r1 <;> cases r2 <;> first | (exact absurd hf (by decide)) | skip
  all_goals (
    clear hf
    go_enter Tryd.func12, Tryd.ntmps12
    go_wp2_with fail
    go_at_call 45
    refine (unhide K _).mono ?_
    rintro e w1 ⟨rfl, rfl⟩
    clear K
    go_wp2_with fail
    go_at_call 46
    refine (unhide F0 _).mono ?_
    rintro e w1 ⟨rfl, rfl⟩
    clear F0
    go_wp2_with fail
    try (
      go_at_call 46
      refine (unhide F1 _).mono ?_
      rintro e w1 ⟨rfl, rfl⟩
      clear F1
      go_wp2_with fail)
    try (
      go_at_call 46
      refine (unhide F2 _).mono ?_
      rintro e w1 ⟨rfl, rfl⟩
      clear F2
      go_wp2_with fail)
    go_ret2
    exact ⟨rfl, HK.out.2.1⟩)

set_option maxHeartbeats 8000000 in
theorem refHeader_good (H : Nat → Int) (b : Nat) (w : World) (h : isSize (b : Int)) (hf : hdrF H = true) :
    Calls Tryd.prog 12 #[Hv H, .int .i64 (b : Int)] w fun e w' => ∃ a c, e = .returned (.tuple #[.slice a b c, .int .i64 0]) ∧ Hid (Own w.heap.size w' a b c (sumB b (hdrH H))) ∧ Below w.heap.size w w' := by
  have K : Hid (∀ u, Calls Tryd.prog 45 #[.int .i64 (b : Int)] u fun e w' => e = .returned (.bool true) ∧ u = w') := fun u => size_yes b u h
  have HK := hide (Bx.start w (Hc H) 25)
  rw [hdr_fits, Bool.and_eq_true, Bool.and_eq_true] at hf
  obtain ⟨g0, g1, g2⟩ := hf
  have F0 : Hid (∀ u, Calls Tryd.prog 46 #[.int .i64 (H 0), .int .i64 4] u fun e w' => e = .returned (.bool true) ∧ u = w') := fun u => by have := fits_any (H 0) 4 u (by omega); rwa [g0] at this
  have F1 : Hid (∀ u, Calls Tryd.prog 46 #[.int .i64 (H 1), .int .i64 2] u fun e w' => e = .returned (.bool true) ∧ u = w') := fun u => by have := fits_any (H 1) 2 u (by omega); rwa [g1] at this
  have F2 : Hid (∀ u, Calls Tryd.prog 46 #[.int .i64 (H 2), .int .i64 2] u fun e w' => e = .returned (.bool true) ∧ u = w') := fun u => by have := fits_any (H 2) 2 u (by omega); rwa [g2] at this
  have hv0 : 0 ≤ H 0 ∧ H 0 ≤ 4294967296 := by have := fit1 g0; omega
  have hv1 : 0 ≤ H 1 ∧ H 1 ≤ 4294967296 := by have := fit1 g1; omega
  have hv2 : 0 ≤ H 2 ∧ H 2 ≤ 4294967296 := by have := fit1 g2; omega
  have hb64 := size_bd h
  clear h g0 g1 g2
  go_enter Tryd.func12, Tryd.ntmps12
  go_wp2_with fail
  go_at_call 45
  refine (unhide K _).mono ?_
  rintro e w1 ⟨rfl, rfl⟩
  clear K
  go_wp2_with fail
  go_at_call 46
  refine (unhide F0 _).mono ?_
  rintro e w1 ⟨rfl, rfl⟩
  clear F0
  go_wp2_with fail
  go_at_call 46
  refine (unhide F1 _).mono ?_
  rintro e w1 ⟨rfl, rfl⟩
  clear F1
  go_wp2_with fail
  go_at_call 46
  refine (unhide F2 _).mono ?_
  rintro e w1 ⟨rfl, rfl⟩
  clear F2
  go_upto_region 5 with fail
  change Code.wp _ _ _ _ (w.alloc (.cells (Hc H) 25))
  generalize w.alloc (.cells (Hc H) 25) = w1 at *
  have hcv := conv_slog w1
  have HS := hide (src_lit w1 slog (4, 5) (w1.alloc (.cells (slog.map (Value.int .u8)).toArray 5 (4, 5))).heap.size 4 rfl (by omega))
  have HK1 := hide ((unhide HK).alloc (.cells (slog.map (Value.int .u8)).toArray 5 (4, 5)))
  have f0 : (w1.alloc (.cells #[.int .u8 83, .int .u8 76, .int .u8 79, .int .u8 71] 5 (4, 5))).cell? ⟨w.heap.size, 0, none⟩ = some (.int .i64 (H 0)) := HK1.out.1 0 _ rfl
  go_wp2_with fail
  go_at_call 40
  refine (refput_n (w1.alloc (.cells (slog.map (Value.int .u8)).toArray 5 (4, 5))).heap.size _ 4 _ slog 4 (H 0) _ 8 rfl HS.out (Nat.le_refl _) ⟨by omega, by omega⟩ hv0.1 hv0.2 (by omega)).mono ?_
  rintro e w2 ⟨a1, c1, rfl, hO1, hb⟩
  clear f0 hcv HS HK
  generalize w1.alloc (.cells (slog.map (Value.int .u8)).toArray 5 (4, 5)) = W at *
  have HB := hide hb
  have HW := HK1
  have HK := hide (Bx.call HW.out HB.out)
  clear hb HK1
  have f1 := HK.out.1 1 _ rfl
  go_wp2_with fail
  go_at_call 40
  refine (refput_n W.heap.size _ 8 _ _ 2 (H 1) _ 10 rfl (.inl hO1.out) HB.out.size ⟨by omega, by omega⟩ hv1.1 hv1.2 (by omega)).mono ?_
  rintro e w3 ⟨a2, c2, rfl, hO2, hb⟩
  replace HB := hide (HB.out.trans hb)
  replace HK := hide (Bx.call HW.out HB.out)
  clear f1 hb hO1
  have f2 := HK.out.1 2 _ rfl
  go_wp2_with fail
  go_at_call 40
  refine (refput_n W.heap.size _ 10 _ _ 2 (H 2) _ 12 rfl (.inl hO2.out) HB.out.size ⟨by omega, by omega⟩ hv2.1 hv2.2 (by omega)).mono ?_
  rintro e w4 ⟨a3, c3, rfl, hO3, hb⟩
  replace HB := hide (HB.out.trans hb)
  replace HK := hide (Bx.call HW.out HB.out)
  clear f2 hb hO2
  have hl : slog ++ digits 4 (H 0) ++ digits 2 (H 1) ++ digits 2 (H 2) = hdrH H := by simp [hdrH, numsB]
  have KS : Hid (Calls Tryd.prog 41 #[.slice a3 12 c3] w4 fun e w' => e = .returned (.int .i64 ((sumS (hdrH H) : Nat) : Int)) ∧ w4 = w') := by
    have hh := hO3.out.has
    rw [hl] at hh
    exact refSum_any _ 12 _ _ _ hh (by omega) (hdrH_byts H)
  have hS := sumS_lt (hdrH_byts H)
  have HE : Hid (Own W.heap.size w4 a3 12 c3 (hdrH H)) := by
    have := hO3.out
    rwa [hl] at this
  have HQ : Hid (sumB b (hdrH H) = layB b (hdrH H ++ digits 4 ((sumS (hdrH H) : Nat) : Int))) := rfl
  generalize sumS (hdrH H) = S at *
  clear hO3
  go_wp2_with fail
  go_at_call 41
  refine (unhide KS).mono ?_
  rintro e w' ⟨rfl, rfl⟩
  clear KS
  go_wp2_with fail
  go_at_call 40
  refine (refput_n W.heap.size _ 12 _ _ 4 (S : Int) _ 16 rfl (.inl HE.out) HB.out.size ⟨by omega, by omega⟩ (by omega) (by omega) (by omega)).mono ?_
  rintro e wy ⟨ay, cy, rfl, hOy, hb⟩
  replace HB := hide (HB.out.trans hb)
  replace HK := hide (Bx.call HW.out HB.out)
  clear hb HE hS
  go_wp2_with fail
  go_at_call 42
  refine (padded_any W.heap.size ay 16 cy b _ wy hOy.out HB.out.size (by omega) (by omega)).mono ?_
  rintro e wz ⟨az, cz, rfl, hOz, hb⟩
  replace HB := hide (HB.out.trans hb)
  have HF : Hid (Own w.heap.size wz az b cz (sumB b (hdrH H)) ∧ Below w.heap.size w wz) := by
    rw [HQ.out]
    exact ⟨hOz.out.base HW.out.2.1.size, HW.out.2.1.trans (HB.out.mono HW.out.2.1.size)⟩
  clear hb hOz HK HW HB HQ
  go_wp2_with fail
  go_ret2
  exact ⟨az, cz, rfl, HF.out.1, HF.out.2⟩

end Go.Proofs.YtmdkcoenjadieaaDoor

/- Contracts of codec.takeHeader and codec.takeSuper. -/
namespace Go.Proofs.YtmdkcoenjadieaaDoor
open Go.RowKit Go.Shelf
set_option linter.unusedVariables false
set_option maxRecDepth 100000

/-- What is found in bytes as a header. -/
def hdrOf (zs : List Int) : Nat → Int
  | 0 => getVal zs 4 4
  | 1 => getVal zs 8 2
  | _ => getVal zs 10 2

set_option maxHeartbeats 4000000 in
theorem takeHeader_any (a : Option Addr) (len cap : Nat) (zs : List Int) (w : World) (hr : Row w.heap.size w a len cap zs) :
    Calls Tryd.prog 52 #[.slice a len cap] w fun e w' => e = .returned (Hv (hdrOf zs)) ∧ Below w.heap.size w w' := by
  have KG : Hid (∀ (at' n : Int) (u : World), at' ≤ 1000 → Below w.heap.size w u → Calls Tryd.prog 74 #[.slice a len cap, .int .i64 at', .int .i64 n] u fun e w' => e = .returned (.int .i64 (getVal zs at' n)) ∧ Below u.heap.size u w') :=
    fun at' n u h1 hb => get_drop a len cap zs at' n u (hr.below hb hb.size) (by omega)
  have HZ := hide (Bl.new w #[.int .i64 0, .int .i64 0, .int .i64 0] 25)
  have HB := hide ((Below.refl _ w).alloc (Nat.le_refl _) (.cells #[.int .i64 0, .int .i64 0, .int .i64 0] 25))
  clear hr
  change Calls Tryd.prog 52 #[.slice a len cap] w fun e w' => e = .returned (.agg #[.int .i64 (getVal zs 4 4), .int .i64 (getVal zs 8 2), .int .i64 (getVal zs 10 2)]) ∧ Below w.heap.size w w'
  go_enter Tryd.func52, Tryd.ntmps52
  go_wp2_with fail
  go_at_call 74
  refine (unhide KG _ _ _ (by omega) HB.out).mono ?_
  rintro e w1 ⟨rfl, hb⟩
  replace HB := hide (bchain HB.out hb (Nat.le_refl _))
  replace HZ := hide (HZ.out.call hb)
  clear hb
  go_wp2_with fail
  go_at_call 74
  refine (unhide KG _ _ _ (by omega) HB.out).mono ?_
  rintro e w2 ⟨rfl, hb⟩
  replace HB := hide (bchain HB.out hb (Nat.le_refl _))
  replace HZ := hide (HZ.out.call hb)
  clear hb
  go_wp2_with fail
  go_at_call 74
  refine (unhide KG _ _ _ (by omega) HB.out).mono ?_
  rintro e w3 ⟨rfl, hb⟩
  replace HB := hide (bchain HB.out hb (Nat.le_refl _))
  replace HZ := hide (HZ.out.call hb)
  clear hb
  have z0 := HZ.out.cell 0 _ rfl
  have z1 := HZ.out.cell 1 _ rfl
  have z2 := HZ.out.cell 2 _ rfl
  have hz := HZ.out.free
  clear KG
  go_wp2_with fail
  have hW : Below w.heap.size w (setAll w3 w.heap.size 0 [.int .i64 (getVal zs 4 4), .int .i64 (getVal zs 8 2), .int .i64 (getVal zs 10 2)]) := below_setAll (Nat.le_refl _) _ _ _ _ HB.out
  have hA : Bl (setAll w3 w.heap.size 0 [.int .i64 (getVal zs 4 4), .int .i64 (getVal zs 8 2), .int .i64 (getVal zs 10 2)]) w.heap.size #[.int .i64 (getVal zs 4 4), .int .i64 (getVal zs 8 2), .int .i64 (getVal zs 10 2)] 25 := setAll_whole [.int .i64 (getVal zs 4 4), .int .i64 (getVal zs 8 2), .int .i64 (getVal zs 10 2)] _ _ HZ.out rfl
  change bodyPost _ _ _ _ _ (setAll w3 w.heap.size 0 [.int .i64 (getVal zs 4 4), .int .i64 (getVal zs 8 2), .int .i64 (getVal zs 10 2)])
  generalize setAll w3 w.heap.size 0 [.int .i64 (getVal zs 4 4), .int .i64 (getVal zs 8 2), .int .i64 (getVal zs 10 2)] = wf at *
  refine bodyPost_ret (v := .agg #[.int .i64 (getVal zs 4 4), .int .i64 (getVal zs 8 2), .int .i64 (getVal zs 10 2)]) ?_ rfl ⟨rfl, hW⟩
  simp [results, Tryd.results52, go_sem, hA.cell 0 _ rfl, hA.cell 1 _ rfl, hA.cell 2 _ rfl]

/-- What is found in bytes as a plan. -/
def supOf (zs : List Int) : Nat → Int := makeP (getVal zs 4 2) (getVal zs 6 2) (getVal zs 8 2) (getVal zs 10 2)

set_option maxHeartbeats 8000000 in
theorem takeSuper_any (a : Option Addr) (len cap : Nat) (zs : List Int) (w : World) (hr : Row w.heap.size w a len cap zs) :
    Calls Tryd.prog 48 #[.slice a len cap] w fun e w' => e = .returned (Pv (supOf zs)) ∧ Below w.heap.size w w' := by
  have KG : Hid (∀ (at' n : Int) (u : World), at' ≤ 1000 → Below w.heap.size w u → Calls Tryd.prog 74 #[.slice a len cap, .int .i64 at', .int .i64 n] u fun e w' => e = .returned (.int .i64 (getVal zs at' n)) ∧ Below u.heap.size u w') :=
    fun at' n u h1 hb => get_drop a len cap zs at' n u (hr.below hb hb.size) (by omega)
  have KM : Hid (∀ u, Calls Tryd.prog 70 #[.int .i64 (getVal zs 4 2), .int .i64 (getVal zs 6 2), .int .i64 (getVal zs 8 2), .int .i64 (getVal zs 10 2)] u fun r w' => ∃ q, r = .returned (.tuple #[Pv (supOf zs), .int .i64 q]) ∧ Below u.heap.size u w') :=
    fun u => (make_any _ _ _ _ u).mono fun r w' ⟨h1, h2⟩ => ⟨_, h1, h2⟩
  have HZ := hide (Bl.new w #[.int .i64 0, .int .i64 0, .int .i64 0, .int .i64 0, .int .i64 0, .int .i64 0, .int .i64 0, .int .i64 0, .int .i64 0, .int .i64 0, .int .i64 0, .int .i64 0] 23)
  have HB := hide ((Below.refl _ w).alloc (Nat.le_refl _) (.cells #[.int .i64 0, .int .i64 0, .int .i64 0, .int .i64 0, .int .i64 0, .int .i64 0, .int .i64 0, .int .i64 0, .int .i64 0, .int .i64 0, .int .i64 0, .int .i64 0] 23))
  clear hr
  generalize supOf zs = P at *
  go_enter Tryd.func48, Tryd.ntmps48
  go_wp2_with fail
  go_at_call 74
  refine (unhide KG _ _ _ (by omega) HB.out).mono ?_
  rintro e w1 ⟨rfl, hb⟩
  replace HB := hide (bchain HB.out hb (Nat.le_refl _))
  replace HZ := hide (HZ.out.call hb)
  clear hb
  go_wp2_with fail
  go_at_call 74
  refine (unhide KG _ _ _ (by omega) HB.out).mono ?_
  rintro e w2 ⟨rfl, hb⟩
  replace HB := hide (bchain HB.out hb (Nat.le_refl _))
  replace HZ := hide (HZ.out.call hb)
  clear hb
  go_wp2_with fail
  go_at_call 74
  refine (unhide KG _ _ _ (by omega) HB.out).mono ?_
  rintro e w3 ⟨rfl, hb⟩
  replace HB := hide (bchain HB.out hb (Nat.le_refl _))
  replace HZ := hide (HZ.out.call hb)
  clear hb
  go_wp2_with fail
  go_at_call 74
  refine (unhide KG _ _ _ (by omega) HB.out).mono ?_
  rintro e w4 ⟨rfl, hb⟩
  replace HB := hide (bchain HB.out hb (Nat.le_refl _))
  replace HZ := hide (HZ.out.call hb)
  clear hb
  clear KG
  go_wp2_with fail
  go_at_call 70
  refine (unhide KM _).mono ?_
  rintro e w5 ⟨q, rfl, hb⟩
  replace HB := hide ((bchain HB.out hb (Nat.le_refl _)).alloc (bchain HB.out hb (Nat.le_refl _)).size (.cells (Pc P) 23))
  replace HZ := hide ((HZ.out.call hb).alloc (.cells (Pc P) 23))
  clear hb KM
  have z0 := HZ.out.cell 0 _ rfl
  have z1 := HZ.out.cell 1 _ rfl
  have z2 := HZ.out.cell 2 _ rfl
  have z3 := HZ.out.cell 3 _ rfl
  have z4 := HZ.out.cell 4 _ rfl
  have z5 := HZ.out.cell 5 _ rfl
  have z6 := HZ.out.cell 6 _ rfl
  have z7 := HZ.out.cell 7 _ rfl
  have z8 := HZ.out.cell 8 _ rfl
  have z9 := HZ.out.cell 9 _ rfl
  have z10 := HZ.out.cell 10 _ rfl
  have z11 := HZ.out.cell 11 _ rfl
  have hz := HZ.out.free
  go_wp2_with fail
  have hW : Below w.heap.size w (setAll (w5.alloc (.cells (Pc P) 23)) w.heap.size 0 [.int .i64 (P 0), .int .i64 (P 1), .int .i64 (P 2), .int .i64 (P 3), .int .i64 (P 4), .int .i64 (P 5), .int .i64 (P 6), .int .i64 (P 7), .int .i64 (P 8), .int .i64 (P 9), .int .i64 (P 10), .int .i64 (P 11)]) := below_setAll (Nat.le_refl _) _ _ _ _ HB.out
  have hA : Bl (setAll (w5.alloc (.cells (Pc P) 23)) w.heap.size 0 [.int .i64 (P 0), .int .i64 (P 1), .int .i64 (P 2), .int .i64 (P 3), .int .i64 (P 4), .int .i64 (P 5), .int .i64 (P 6), .int .i64 (P 7), .int .i64 (P 8), .int .i64 (P 9), .int .i64 (P 10), .int .i64 (P 11)]) w.heap.size #[.int .i64 (P 0), .int .i64 (P 1), .int .i64 (P 2), .int .i64 (P 3), .int .i64 (P 4), .int .i64 (P 5), .int .i64 (P 6), .int .i64 (P 7), .int .i64 (P 8), .int .i64 (P 9), .int .i64 (P 10), .int .i64 (P 11)] 23 := setAll_whole [.int .i64 (P 0), .int .i64 (P 1), .int .i64 (P 2), .int .i64 (P 3), .int .i64 (P 4), .int .i64 (P 5), .int .i64 (P 6), .int .i64 (P 7), .int .i64 (P 8), .int .i64 (P 9), .int .i64 (P 10), .int .i64 (P 11)] _ _ HZ.out rfl
  change bodyPost _ _ _ _ _ (setAll (w5.alloc (.cells (Pc P) 23)) w.heap.size 0 [.int .i64 (P 0), .int .i64 (P 1), .int .i64 (P 2), .int .i64 (P 3), .int .i64 (P 4), .int .i64 (P 5), .int .i64 (P 6), .int .i64 (P 7), .int .i64 (P 8), .int .i64 (P 9), .int .i64 (P 10), .int .i64 (P 11)])
  generalize setAll (w5.alloc (.cells (Pc P) 23)) w.heap.size 0 [.int .i64 (P 0), .int .i64 (P 1), .int .i64 (P 2), .int .i64 (P 3), .int .i64 (P 4), .int .i64 (P 5), .int .i64 (P 6), .int .i64 (P 7), .int .i64 (P 8), .int .i64 (P 9), .int .i64 (P 10), .int .i64 (P 11)] = wf at *
  refine bodyPost_ret (v := Pv P) ?_ rfl ⟨rfl, hW⟩
  simp [results, Tryd.results48, go_sem, hA.cell 0 _ rfl, hA.cell 1 _ rfl, hA.cell 2 _ rfl, hA.cell 3 _ rfl, hA.cell 4 _ rfl, hA.cell 5 _ rfl, hA.cell 6 _ rfl, hA.cell 7 _ rfl, hA.cell 8 _ rfl, hA.cell 9 _ rfl, hA.cell 10 _ rfl, hA.cell 11 _ rfl]

end Go.Proofs.YtmdkcoenjadieaaDoor

