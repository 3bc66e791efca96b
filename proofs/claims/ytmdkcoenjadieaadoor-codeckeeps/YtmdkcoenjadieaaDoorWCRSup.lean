/- Contracts of skerryref06.Super and skerryref06.Header: the blocks. -/
import Derived.Test.YtmdkcoenjadieaaDoorWJ36
import Derived.Test.YtmdkcoenjadieaaDoorWJ34
namespace Go.Proofs.YtmdkcoenjadieaaDoor
open Go.RowKit Go.Shelf
set_option linter.unusedVariables false
set_option maxRecDepth 100000

theorem refput_n (B : Nat) (a : Option Addr) (n c : Nat) (xs : List Int) (wd : Nat) (v : Int) (w : World) (m : Nat) (hm : m = n + wd) (h : Src B w a n c xs) (hB : B ≤ w.heap.size) (hw : 1 ≤ wd ∧ wd ≤ 4) (h0 : 0 ≤ v) (h1 : v ≤ 4294967296) (hn : n ≤ 140737488351232) :
    Calls Tryd.prog 40 #[.slice a n c, .int .i64 (wd : Int), .int .i64 v] w fun e w' => ∃ a' c', e = .returned (.slice a' m c') ∧ Hid (Own B w' a' m c' (xs ++ digits wd v)) ∧ Below B w w' := by
  subst hm
  exact refput_any B a n c xs wd v w h hB hw h0 h1 hn

theorem fit1 {wd : Nat} {v : Int} (h : fitB wd [v] = true) : 0 ≤ v ∧ v < 256 ^ wd := fitB_iff.1 h v (by simp)

theorem src_lit (u : World) (xs : List Int) (fr : Nat × Nat) (B : Nat) (n : Nat) (hn : xs.length = n) (hp : 0 < n) : Src B (u.alloc (.cells (xs.map (Value.int .u8)).toArray 5 fr)) (some ⟨u.heap.size, 0, none⟩) n n xs := by
  subst hn
  exact .inr ⟨has_list u xs fr, rfl, hp⟩

theorem conv_slog (u : World) : (convert 26 26 (.slice (some ⟨u.heap.size, 0, none⟩) 4 4)).run Tryd.prog (u.alloc (.cells #[.int .u8 83, .int .u8 76, .int .u8 79, .int .u8 71] 5)) = .ok (.slice (some ⟨u.heap.size, 0, none⟩) 4 4) (u.alloc (.cells #[.int .u8 83, .int .u8 76, .int .u8 79, .int .u8 71] 5 (4, 5))) :=
  Lib.run_convert_bytes_const (P := Tryd.prog) u 26 5 #[.int .u8 83, .int .u8 76, .int .u8 79, .int .u8 71] 4 4 Tryd.underlying26 Tryd.underlying5

theorem conv_skry' (u : World) : (convert 26 26 (.slice (some ⟨u.heap.size, 0, none⟩) 4 4)).run Tryd.prog (u.alloc (.cells #[.int .u8 83, .int .u8 75, .int .u8 82, .int .u8 89] 5)) = .ok (.slice (some ⟨u.heap.size, 0, none⟩) 4 4) (u.alloc (.cells #[.int .u8 83, .int .u8 75, .int .u8 82, .int .u8 89] 5 (4, 5))) :=
  Lib.run_convert_bytes_const (P := Tryd.prog) u 26 5 #[.int .u8 83, .int .u8 75, .int .u8 82, .int .u8 89] 4 4 Tryd.underlying26 Tryd.underlying5

set_option maxHeartbeats 8000000 in
theorem refSuper_good (P : Nat → Int) (b : Nat) (w : World) (h : checkE P = 0) (hb0 : P 0 = (b : Int)) :
    Calls Tryd.prog 10 #[Pv P] w fun e w' => ∃ a c, e = .returned (.tuple #[.slice a b c, .int .i64 0]) ∧ Hid (Own w.heap.size w' a b c (sumB b (supH P))) ∧ Below w.heap.size w w' := by
  have hbs := check_bounds h
  have hbd := size_bd hbs.1
  have K : Hid (∀ u, Calls Tryd.prog 39 #[Pv P] u fun r w' => r = .returned (.int .i64 0) ∧ Below u.heap.size u w') := fun u => by
    have := refCheck_any P u
    rwa [h] at this
  have HK := hide (Bx.start w (Pc P) 23)
  have hv0 : 0 ≤ P 0 ∧ P 0 ≤ 4294967296 := by omega
  have hv1 : 0 ≤ P 1 ∧ P 1 ≤ 4294967296 := by omega
  have hv2 : 0 ≤ P 2 ∧ P 2 ≤ 4294967296 := by omega
  have hv3 : 0 ≤ P 3 ∧ P 3 ≤ 4294967296 := by omega
  have hb64 : 64 ≤ b ∧ b ≤ 4096 := by omega
  have HP0 := hide hb0
  clear h hbd hbs hb0
  go_enter Tryd.func10, Tryd.ntmps10
  go_wp2_with fail
  go_at_call 39
  refine (unhide K _).mono ?_
  rintro e w1 ⟨rfl, hb⟩
  replace HK := hide ((unhide HK).call hb)
  clear K hb
  have hcv := conv_skry' w1
  have HS := hide (src_lit w1 skry (4, 5) (w1.alloc (.cells (skry.map (Value.int .u8)).toArray 5 (4, 5))).heap.size 4 rfl (by omega))
  replace HK := hide ((unhide HK).alloc (.cells (skry.map (Value.int .u8)).toArray 5 (4, 5)))
  go_upto_region 4 with fail
  change Code.wp _ _ _ _ (w1.alloc (.cells (skry.map (Value.int .u8)).toArray 5 (4, 5)))
  clear hcv
  generalize w1.alloc (.cells (skry.map (Value.int .u8)).toArray 5 (4, 5)) = W at *
  generalize w1.heap.size = g0 at *
  have HW := HK
  have HB := hide (Below.refl W.heap.size W)
  have f0 := HK.out.1 0 _ rfl
  go_wp2_with fail
  go_at_call 40
  refine (refput_n W.heap.size _ 4 _ _ 2 (P 0) _ 6 rfl (HS.out) HB.out.size ⟨by omega, by omega⟩ hv0.1 hv0.2 (by omega)).mono ?_
  rintro e w2 ⟨a1, c1, rfl, hO1, hb⟩
  replace HB := hide (HB.out.trans hb)
  replace HK := hide (Bx.call HW.out HB.out)
  clear f0 hb HS
  have f1 := HK.out.1 1 _ rfl
  go_wp2_with fail
  go_at_call 40
  refine (refput_n W.heap.size _ 6 _ _ 2 (P 1) _ 8 rfl (.inl hO1.out) HB.out.size ⟨by omega, by omega⟩ hv1.1 hv1.2 (by omega)).mono ?_
  rintro e w3 ⟨a2, c2, rfl, hO2, hb⟩
  replace HB := hide (HB.out.trans hb)
  replace HK := hide (Bx.call HW.out HB.out)
  clear f1 hb hO1
  have f2 := HK.out.1 2 _ rfl
  go_wp2_with fail
  go_at_call 40
  refine (refput_n W.heap.size _ 8 _ _ 2 (P 2) _ 10 rfl (.inl hO2.out) HB.out.size ⟨by omega, by omega⟩ hv2.1 hv2.2 (by omega)).mono ?_
  rintro e w4 ⟨a3, c3, rfl, hO3, hb⟩
  replace HB := hide (HB.out.trans hb)
  replace HK := hide (Bx.call HW.out HB.out)
  clear f2 hb hO2
  have f3 := HK.out.1 3 _ rfl
  go_wp2_with fail
  go_at_call 40
  refine (refput_n W.heap.size _ 10 _ _ 2 (P 3) _ 12 rfl (.inl hO3.out) HB.out.size ⟨by omega, by omega⟩ hv3.1 hv3.2 (by omega)).mono ?_
  rintro e w5 ⟨a4, c4, rfl, hO4, hb⟩
  replace HB := hide (HB.out.trans hb)
  replace HK := hide (Bx.call HW.out HB.out)
  clear f3 hb hO3
  have hl : skry ++ digits 2 (P 0) ++ digits 2 (P 1) ++ digits 2 (P 2) ++ digits 2 (P 3) = supH P := by simp [supH, numsB]
  have KS : Hid (Calls Tryd.prog 41 #[.slice a4 12 c4] w5 fun e w' => e = .returned (.int .i64 ((sumS (supH P) : Nat) : Int)) ∧ w5 = w') := by
    have hh := hO4.out.has
    rw [hl] at hh
    exact refSum_any _ 12 _ _ _ hh (by omega) (supH_byts P)
  have hS := sumS_lt (supH_byts P)
  have HE : Hid (Own W.heap.size w5 a4 12 c4 (supH P)) := by
    have := hO4.out
    rwa [hl] at this
  have HQ : Hid (sumB b (supH P) = layB b (supH P ++ digits 4 ((sumS (supH P) : Nat) : Int))) := rfl
  generalize sumS (supH P) = S at *
  clear hO4
  go_wp2_with fail
  go_at_call 41
  refine (unhide KS).mono ?_
  rintro e w' ⟨rfl, rfl⟩
  clear KS
  go_wp2_with fail
  go_at_call 40
  refine (refput_n W.heap.size _ 12 _ _ 4 (S : Int) _ 16 rfl (.inl HE.out) HB.out.size ⟨by omega, by omega⟩ (by omega) (by omega) (by omega)).mono ?_
  rintro e wy ⟨ay, cy, rfl, hOy, hb⟩
  replace HB := hide (HB.out.trans hb)
  replace HK := hide (Bx.call HW.out HB.out)
  clear hb HE hS
  have f0 := HK.out.1 0 _ rfl
  have KPd : Hid (Calls Tryd.prog 42 #[.slice ay 16 cy, .int .i64 (P 0)] wy fun e w' => ∃ a' c', e = .returned (.slice a' b c') ∧ Hid (Own W.heap.size w' a' b c' (layB b (supH P ++ digits 4 (S : Int)))) ∧ Below W.heap.size wy w') := by
    rw [HP0.out]
    exact padded_any W.heap.size ay 16 cy b _ wy hOy.out HB.out.size (by omega) (by omega)
  go_wp2_with fail
  go_at_call 42
  refine (unhide KPd).mono ?_
  rintro e wz ⟨az, cz, rfl, hOz, hb⟩
  replace HB := hide (HB.out.trans hb)
  have HF : Hid (Own w.heap.size wz az b cz (sumB b (supH P)) ∧ Below w.heap.size w wz) := by
    rw [HQ.out]
    exact ⟨hOz.out.base HW.out.2.1.size, HW.out.2.1.trans (HB.out.mono HW.out.2.1.size)⟩
  clear f0 KPd hb hOz HK HW HB HQ
  go_wp2_with fail
  go_ret2
  exact ⟨az, cz, rfl, HF.out.1, HF.out.2⟩

end Go.Proofs.YtmdkcoenjadieaaDoor
