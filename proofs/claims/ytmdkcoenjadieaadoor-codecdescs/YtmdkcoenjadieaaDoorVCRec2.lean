/- Contract of codec.Record: the frame. -/
import Derived.Test.YtmdkcoenjadieaaDoorVCRec
import Derived.Test.YtmdkcoenjadieaaDoorVLaid
namespace Go.Proofs.YtmdkcoenjadieaaDoor
open Go.RowKit Go.Shelf
set_option linter.unusedVariables false
set_option maxRecDepth 100000

set_option maxHeartbeats 8000000 in
theorem record_go (Z : Nat → Int) (s : ByteArray) (w : World) (hf : recF Z = true) (M : Nat) (hM : M = 24 + s.size) (hMB : M ≤ 140737488351300) (E : Int) (n : Nat) (xs : List Int)
    (KF : Hid (∀ a c u, Below w.heap.size w u → Has u a M (layB M (recL Z s)) → M ≤ c → c ≤ 9223372036854775807 → Calls Tryd.prog 58 #[.slice a M c] u fun e w' => ∃ v, e = .returned v ∧ spTup E n xs v w' ∧ Below u.heap.size u w')) :
    Calls Tryd.prog 23 #[Rv Z s] w fun e w' => ∃ a c, e = .returned (.tuple #[.slice a n c, .int .i64 E]) ∧ Hid (Has w' a n xs ∧ n ≤ c ∧ c ≤ 9223372036854775807) ∧ Below w.heap.size w w' := by
  have HK := hide (Bx.start w (Rc Z s) 48)
  unfold recF at hf
  rw [Bool.and_eq_true] at hf
  obtain ⟨h4, h2⟩ := hf
  have F4 : Hid (∀ (u : World) (g : Nat), g = u.heap.size → Calls Tryd.prog 44 #[.int .i64 4, .slice (some ⟨g, 0, none⟩) 4 4] (u.alloc (.cells #[.int .i64 (Z 0), .int .i64 (Z 1), .int .i64 (Z 6), .int .i64 (Z 7)] 3)) fun e w' => e = .returned (.bool true) ∧ Below u.heap.size u w') :=
    fun u g hg => by subst hg; exact fit_lst 4 (.inr rfl) [Z 0, Z 1, Z 6, Z 7] u (by simp) _ h4
  have F2 : Hid (∀ u : World, Bx w (Rc Z s) u → Calls Tryd.prog 44 #[.int .i64 2, .slice (some ⟨w.heap.size, 2, none⟩) 4 4] u fun e w' => e = .returned (.bool true) ∧ u = w') :=
    fun u hB => by have := fit_any 2 (.inl rfl) _ 4 4 (sealL Z) u (sealL_has hB) (by omega); rwa [h2] at this
  have H4 := hide h4
  have H2 := hide h2
  have HM := hide hM
  have HM2 : Hid ((24 : Int) + (s.size : Int) = (M : Int) ∧ -9223372036854775808 ≤ (M : Int) ∧ (M : Int) ≤ 9223372036854775807) := ⟨by omega, by omega, by omega⟩
  have HMB := hide hMB
  clear h4 h2 hM hMB
  go_enter Tryd.func23, Tryd.ntmps23
  go_wp2_with fail
  go_at_call 44
  refine (unhide F4 _ _ (by simp)).mono ?_
  rintro e w1 ⟨rfl, hb⟩
  replace HK := hide ((unhide HK).call hb)
  clear hb F4
  go_wp2_with fail
  go_at_call 44
  refine (unhide F2 _ HK.out).mono ?_
  rintro e w' ⟨rfl, rfl⟩
  clear F2
  go_upto_region 3 with fail
  go_cut [2, 3] (fun c q wx => ∃ a0 c0, c = .slice a0 n c0 ∧ q = .int .i64 E ∧ Hid (Has wx a0 n xs ∧ n ≤ c0 ∧ c0 ≤ 9223372036854775807) ∧ Hid (Bx w (Rc Z s) wx))
  case first =>
    refine wp_region_sp (by kernel_rfl) w.heap.size [spVal (.pointer (some ⟨w.heap.size, 6, none⟩)), spVal (.pointer (some ⟨w.heap.size, 8, none⟩)), spVal (.string s), spVal (.int .i64 ((s.size : Nat) : Int)), spVal (.int .i64 ((M : Nat) : Int)), spVal (.pointer (some ⟨w.heap.size, 0, none⟩)), spVal (.int .i64 (Z 0)), spVal (.pointer (some ⟨w.heap.size, 1, none⟩)), spVal (.int .i64 (Z 1)), spVal (.pointer (some ⟨w.heap.size, 6, none⟩)), spVal (.pointer (some ⟨w.heap.size, 6, none⟩)), spVal (.int .i64 (Z 6)), spVal (.pointer (some ⟨w.heap.size, 6, none⟩)), spVal (.pointer (some ⟨w.heap.size, 7, none⟩)), spVal (.int .i64 (Z 7)), spInts [Z 0, Z 1, Z 6, Z 7], spBytes 16 (numsB 4 [Z 0, Z 1, Z 6, Z 7]), spVal (.pointer (some ⟨w.heap.size, 2, none⟩)), spInts (sealL Z), spBytes 8 (numsB 2 (sealL Z)), spVal (.pointer (some ⟨w.heap.size, 6, none⟩)), spVal (.pointer (some ⟨w.heap.size, 8, none⟩)), spVal (.string s), spBytes s.size (byts s), spParts 3 (recL Z s), spBytes M (layB M (recL Z s)), spTup E n xs, spBytes n xs, spVal (.int .i64 E), spBytes n xs, spVal (.int .i64 E)] ?_ (by kernel_rfl) (by kernel_rfl) ?_ ?_
    · intro S hS
      simp only [List.mem_cons, List.not_mem_nil, or_false] at hS
      rcases hS with rfl | rfl | rfl | rfl | rfl | rfl | rfl | rfl | rfl | rfl | rfl | rfl | rfl | rfl | rfl | rfl | rfl | rfl | rfl | rfl | rfl | rfl | rfl | rfl | rfl | rfl | rfl | rfl | rfl | rfl | rfl <;> first | exact mono_val _ _ | exact mono_bytes _ _ _ | exact mono_lit _ _ | exact mono_ints _ _ | exact mono_parts _ _ _ | exact mono_tup _ _ _ _
    · intro i o a u hi hF hA hG
      have hB := HK.out.drew.grw hG
      have hn : w.heap.size ≤ u.heap.size := hB.2.1.size
      have tb : a.tmps[1]?.getD undef = .pointer (some ⟨w.heap.size, 0, none⟩) := fr_at hF 1 (by kernel_rfl)
      have hlt := (Array.getElem?_eq_some_iff.1 hi).1
      have hcs : i = 0 ∨ i = 1 ∨ i = 2 ∨ i = 3 ∨ i = 4 ∨ i = 5 ∨ i = 6 ∨ i = 7 ∨ i = 8 ∨ i = 9 ∨ i = 10 ∨ i = 11 ∨ i = 12 ∨ i = 13 ∨ i = 14 ∨ i = 15 ∨ i = 16 ∨ i = 17 ∨ i = 18 ∨ i = 19 ∨ i = 20 ∨ i = 21 ∨ i = 22 ∨ i = 23 ∨ i = 24 ∨ i = 25 ∨ i = 26 ∨ i = 27 ∨ i = 28 ∨ i = 29 ∨ i = 30 := by simp at hlt; omega
      clear hlt
      rcases hcs with rfl | rfl | rfl | rfl | rfl | rfl | rfl | rfl | rfl | rfl | rfl | rfl | rfl | rfl | rfl | rfl | rfl | rfl | rfl | rfl | rfl | rfl | rfl | rfl | rfl | rfl | rfl | rfl | rfl | rfl | rfl
      · have ho := Option.some.inj hi; subst ho
        have h0 := tb
        refine st_val (w' := u) rfl rfl (.pointer (some ⟨w.heap.size, 6, none⟩)) ?_ rfl (Grw.refl _ _)
        simp [execOp, Act.eval, h0, go_sem]
      · have ho := Option.some.inj hi; subst ho
        have h0 : a.tmps[23]?.getD undef = .pointer (some ⟨w.heap.size, 6, none⟩) := ahead_at hA 0 23 (by kernel_rfl) rfl
        refine st_val (w' := u) rfl rfl (.pointer (some ⟨w.heap.size, 8, none⟩)) ?_ rfl (Grw.refl _ _)
        simp [execOp, Act.eval, h0, go_sem]
      · have ho := Option.some.inj hi; subst ho
        have h0 : a.tmps[24]?.getD undef = .pointer (some ⟨w.heap.size, 8, none⟩) := ahead_at hA 1 24 (by kernel_rfl) rfl
        have f0 := hB.1 8 _ rfl
        refine st_val (w' := u) rfl rfl (.string s) ?_ rfl (Grw.refl _ _)
        simp [execOp, Act.eval, h0, f0, go_sem]
      · have ho := Option.some.inj hi; subst ho
        have h0 : a.tmps[25]?.getD undef = .string s := ahead_at hA 2 25 (by kernel_rfl) rfl
        refine st_val (w' := u) rfl rfl (.int .i64 ((s.size : Nat) : Int)) ?_ rfl (Grw.refl _ _)
        simp [execOp, Act.eval, h0, go_sem]
      · have ho := Option.some.inj hi; subst ho
        have h0 : a.tmps[26]?.getD undef = .int .i64 ((s.size : Nat) : Int) := ahead_at hA 3 26 (by kernel_rfl) rfl
        have hw := HM2.out.1
        have hw2 : IntKind.i64.wrap ((M : Nat) : Int) = ((M : Nat) : Int) := by have := HM2.out; rw [IntKind.wrap_i64]; omega
        refine st_val (w' := u) rfl rfl (.int .i64 ((M : Nat) : Int)) ?_ rfl (Grw.refl _ _)
        simp [execOp, Act.eval, h0, go_sem, hw, hw2]
      · have ho := Option.some.inj hi; subst ho
        have h0 := tb
        refine st_val (w' := u) rfl rfl (.pointer (some ⟨w.heap.size, 0, none⟩)) ?_ rfl (Grw.refl _ _)
        simp [execOp, Act.eval, h0, go_sem]
      · have ho := Option.some.inj hi; subst ho
        have h0 : a.tmps[28]?.getD undef = .pointer (some ⟨w.heap.size, 0, none⟩) := ahead_at hA 5 28 (by kernel_rfl) rfl
        have f0 := hB.1 0 _ rfl
        refine st_val (w' := u) rfl rfl (.int .i64 (Z 0)) ?_ rfl (Grw.refl _ _)
        simp [execOp, Act.eval, h0, f0, go_sem]
      · have ho := Option.some.inj hi; subst ho
        have h0 := tb
        refine st_val (w' := u) rfl rfl (.pointer (some ⟨w.heap.size, 1, none⟩)) ?_ rfl (Grw.refl _ _)
        simp [execOp, Act.eval, h0, go_sem]
      · have ho := Option.some.inj hi; subst ho
        have h0 : a.tmps[30]?.getD undef = .pointer (some ⟨w.heap.size, 1, none⟩) := ahead_at hA 7 30 (by kernel_rfl) rfl
        have f0 := hB.1 1 _ rfl
        refine st_val (w' := u) rfl rfl (.int .i64 (Z 1)) ?_ rfl (Grw.refl _ _)
        simp [execOp, Act.eval, h0, f0, go_sem]
      · have ho := Option.some.inj hi; subst ho
        have h0 := tb
        refine st_val (w' := u) rfl rfl (.pointer (some ⟨w.heap.size, 6, none⟩)) ?_ rfl (Grw.refl _ _)
        simp [execOp, Act.eval, h0, go_sem]
      · have ho := Option.some.inj hi; subst ho
        have h0 : a.tmps[32]?.getD undef = .pointer (some ⟨w.heap.size, 6, none⟩) := ahead_at hA 9 32 (by kernel_rfl) rfl
        refine st_val (w' := u) rfl rfl (.pointer (some ⟨w.heap.size, 6, none⟩)) ?_ rfl (Grw.refl _ _)
        simp [execOp, Act.eval, h0, go_sem]
      · have ho := Option.some.inj hi; subst ho
        have h0 : a.tmps[33]?.getD undef = .pointer (some ⟨w.heap.size, 6, none⟩) := ahead_at hA 10 33 (by kernel_rfl) rfl
        have f0 := hB.1 6 _ rfl
        refine st_val (w' := u) rfl rfl (.int .i64 (Z 6)) ?_ rfl (Grw.refl _ _)
        simp [execOp, Act.eval, h0, f0, go_sem]
      · have ho := Option.some.inj hi; subst ho
        have h0 := tb
        refine st_val (w' := u) rfl rfl (.pointer (some ⟨w.heap.size, 6, none⟩)) ?_ rfl (Grw.refl _ _)
        simp [execOp, Act.eval, h0, go_sem]
      · have ho := Option.some.inj hi; subst ho
        have h0 : a.tmps[35]?.getD undef = .pointer (some ⟨w.heap.size, 6, none⟩) := ahead_at hA 12 35 (by kernel_rfl) rfl
        refine st_val (w' := u) rfl rfl (.pointer (some ⟨w.heap.size, 7, none⟩)) ?_ rfl (Grw.refl _ _)
        simp [execOp, Act.eval, h0, go_sem]
      · have ho := Option.some.inj hi; subst ho
        have h0 : a.tmps[36]?.getD undef = .pointer (some ⟨w.heap.size, 7, none⟩) := ahead_at hA 13 36 (by kernel_rfl) rfl
        have f0 := hB.1 7 _ rfl
        refine st_val (w' := u) rfl rfl (.int .i64 (Z 7)) ?_ rfl (Grw.refl _ _)
        simp [execOp, Act.eval, h0, f0, go_sem]
      · have ho := Option.some.inj hi; subst ho
        have h0 : a.tmps[29]?.getD undef = .int .i64 (Z 0) := ahead_at hA 6 29 (by kernel_rfl) rfl
        have h1 : a.tmps[31]?.getD undef = .int .i64 (Z 1) := ahead_at hA 8 31 (by kernel_rfl) rfl
        have h2 : a.tmps[34]?.getD undef = .int .i64 (Z 6) := ahead_at hA 11 34 (by kernel_rfl) rfl
        have h3 : a.tmps[37]?.getD undef = .int .i64 (Z 7) := ahead_at hA 14 37 (by kernel_rfl) rfl
        refine st_val (w' := u.alloc (.cells ([Z 0, Z 1, Z 6, Z 7].map (Value.int .i64)).toArray 3)) rfl rfl (.slice (some ⟨u.heap.size, 0, none⟩) 4 4) ?_ ⟨_, _, rfl, ihas_list u [Z 0, Z 1, Z 6, Z 7]⟩ (Grw.alloc _ _ _ hn)
        simp [execOp, Act.eval, h0, h1, h2, h3, go_sem]
      · have ho := Option.some.inj hi; subst ho
        have h0 : spInts [Z 0, Z 1, Z 6, Z 7] (a.tmps[38]?.getD undef) u := ahead_at hA 15 38 (by kernel_rfl) rfl
        refine st_call rfl rfl 37 #[.int .i64 (4 : Nat), a.tmps[38]?.getD undef] ?_ hn (numbers_sp 4 (.inr (.inr rfl)) [Z 0, Z 1, Z 6, Z 7] _ u h0 (by first | (simp; done) | simp [sealL]) H4.out 16 rfl)
        simp [execOp, Act.eval, go_sem]
      · have ho := Option.some.inj hi; subst ho
        have h0 := tb
        refine st_val (w' := u) rfl rfl (.pointer (some ⟨w.heap.size, 2, none⟩)) ?_ rfl (Grw.refl _ _)
        simp [execOp, Act.eval, h0, go_sem]
      · have ho := Option.some.inj hi; subst ho
        have h0 : a.tmps[40]?.getD undef = .pointer (some ⟨w.heap.size, 2, none⟩) := ahead_at hA 17 40 (by kernel_rfl) rfl
        refine st_val (w' := u) rfl rfl (.slice (some ⟨w.heap.size, 2, none⟩) 4 4) ?_ ⟨_, _, rfl, sealL_has hB⟩ (Grw.refl _ _)
        simp [execOp, Act.eval, h0, go_sem]
      · have ho := Option.some.inj hi; subst ho
        have h0 : spInts (sealL Z) (a.tmps[41]?.getD undef) u := ahead_at hA 18 41 (by kernel_rfl) rfl
        refine st_call rfl rfl 37 #[.int .i64 (2 : Nat), a.tmps[41]?.getD undef] ?_ hn (numbers_sp 2 (.inr (.inl rfl)) (sealL Z) _ u h0 (by first | (simp; done) | simp [sealL]) H2.out 8 rfl)
        simp [execOp, Act.eval, go_sem]
      · have ho := Option.some.inj hi; subst ho
        have h0 := tb
        refine st_val (w' := u) rfl rfl (.pointer (some ⟨w.heap.size, 6, none⟩)) ?_ rfl (Grw.refl _ _)
        simp [execOp, Act.eval, h0, go_sem]
      · have ho := Option.some.inj hi; subst ho
        have h0 : a.tmps[43]?.getD undef = .pointer (some ⟨w.heap.size, 6, none⟩) := ahead_at hA 20 43 (by kernel_rfl) rfl
        refine st_val (w' := u) rfl rfl (.pointer (some ⟨w.heap.size, 8, none⟩)) ?_ rfl (Grw.refl _ _)
        simp [execOp, Act.eval, h0, go_sem]
      · have ho := Option.some.inj hi; subst ho
        have h0 : a.tmps[44]?.getD undef = .pointer (some ⟨w.heap.size, 8, none⟩) := ahead_at hA 21 44 (by kernel_rfl) rfl
        have f0 := hB.1 8 _ rfl
        refine st_val (w' := u) rfl rfl (.string s) ?_ rfl (Grw.refl _ _)
        simp [execOp, Act.eval, h0, f0, go_sem]
      · have ho := Option.some.inj hi; subst ho
        have h0 : a.tmps[45]?.getD undef = .string s := ahead_at hA 22 45 (by kernel_rfl) rfl
        obtain ⟨v, u', hr, hS, hg⟩ := text_conv w.heap.size s u hn (by have := HMB.out; have := HM.out; omega)
        refine st_val (w' := u') rfl rfl v ?_ hS hg
        simp [execOp, Act.eval, h0, hr, go_sem]
      · have ho := Option.some.inj hi; subst ho
        obtain ⟨p0, c0, e0, b0, _, _⟩ : spBytes 16 (numsB 4 [Z 0, Z 1, Z 6, Z 7]) (a.tmps[39]?.getD undef) u := ahead_at hA 16 39 (by kernel_rfl) rfl
        obtain ⟨p1, c1, e1, b1, _, _⟩ : spBytes 8 (numsB 2 (sealL Z)) (a.tmps[42]?.getD undef) u := ahead_at hA 19 42 (by kernel_rfl) rfl
        obtain ⟨p2, c2, e2, b2, _, _⟩ : spBytes s.size (byts s) (a.tmps[46]?.getD undef) u := ahead_at hA 23 46 (by kernel_rfl) rfl
        have hp := phas_list u [(p0, 16, c0, (numsB 4 [Z 0, Z 1, Z 6, Z 7])), (p1, 8, c1, (numsB 2 (sealL Z))), (p2, s.size, c2, (byts s))] (by
          intro p hp
          simp only [List.mem_cons, List.not_mem_nil, or_false] at hp
          rcases hp with rfl | rfl | rfl
          · exact b0
          · exact b1
          · exact b2)
        refine st_val (w' := u.alloc (.cells ([(p0, 16, c0, (numsB 4 [Z 0, Z 1, Z 6, Z 7])), (p1, 8, c1, (numsB 2 (sealL Z))), (p2, s.size, c2, (byts s))].map pv).toArray 26)) rfl rfl (.slice (some ⟨u.heap.size, 0, none⟩) 3 3) ?_ ⟨_, _, _, rfl, hp, by simp [allP, recL]⟩ (Grw.alloc _ _ _ hn)
        simp [execOp, Act.eval, e0, e1, e2, go_sem]
        all_goals rfl
      · have ho := Option.some.inj hi; subst ho
        have h1 : a.tmps[27]?.getD undef = .int .i64 ((M : Nat) : Int) := ahead_at hA 4 27 (by kernel_rfl) rfl
        have h0 : spParts 3 (recL Z s) (a.tmps[47]?.getD undef) u := ahead_at hA 24 47 (by kernel_rfl) rfl
        refine st_call rfl rfl 36 #[.int .i64 ((M : Nat) : Int), a.tmps[47]?.getD undef] ?_ hn ((lay_sp (M) 3 (recL Z s) _ u h0 (by omega) (by rw [recL_length, HM.out]; omega) HMB.out (recL_byts Z s)).mono fun e w' ⟨v, e1, h1, h2⟩ => ⟨v, e1, h1.1, h2⟩)
        simp [execOp, Act.eval, h1, go_sem]
      · have ho := Option.some.inj hi; subst ho
        obtain ⟨p0, c0, e0, b0, _, b1, b2⟩ : spBytes M (layB M (recL Z s)) (a.tmps[48]?.getD undef) u := ahead_at hA 25 48 (by kernel_rfl) rfl
        refine st_call rfl rfl 58 #[a.tmps[48]?.getD undef] ?_ hn ?_
        · simp [execOp, Act.eval, go_sem]
        · rw [e0]; exact unhide KF p0 c0 u hB.2.1 b0 b1 b2
      · have ho := Option.some.inj hi; subst ho
        obtain ⟨p0, c0, e0, b0, b1⟩ : spTup E n xs (a.tmps[49]?.getD undef) u := ahead_at hA 26 49 (by kernel_rfl) rfl
        refine st_val (w' := u) rfl rfl (.slice p0 n c0) ?_ ⟨p0, c0, rfl, b0, b1⟩ (Grw.refl _ _)
        simp [execOp, Act.eval, e0, go_sem]
      · have ho := Option.some.inj hi; subst ho
        obtain ⟨p0, c0, e0, b0, b1⟩ : spTup E n xs (a.tmps[49]?.getD undef) u := ahead_at hA 26 49 (by kernel_rfl) rfl
        refine st_val (w' := u) rfl rfl (.int .i64 E) ?_ rfl (Grw.refl _ _)
        simp [execOp, Act.eval, e0, go_sem]
      · have ho := Option.some.inj hi; subst ho
        have h0 : spBytes n xs (a.tmps[50]?.getD undef) u := ahead_at hA 27 50 (by kernel_rfl) rfl
        refine st_val (w' := u) rfl rfl (a.tmps[50]?.getD undef) ?_ h0 (Grw.refl _ _)
        simp [execOp, Act.eval, go_sem]
      · have ho := Option.some.inj hi; subst ho
        have h0 : spVal (.int .i64 E) (a.tmps[51]?.getD undef) u := ahead_at hA 28 51 (by kernel_rfl) rfl
        refine st_val (w' := u) rfl rfl (a.tmps[51]?.getD undef) ?_ h0 (Grw.refl _ _)
        simp [execOp, Act.eval, go_sem]
    · intro a u hF hR hG
      have q0 := fr_at hF 0 (by kernel_rfl)
      have q1 := fr_at hF 1 (by kernel_rfl)
      obtain ⟨r0, r1, r2, r3, r4⟩ : spBytes n xs (a.tmps[2]?.getD undef) u := by have := hR 29 _ 2 rfl rfl; rwa [Array.getD_eq_getD_getElem?] at this
      obtain p3 : a.tmps[3]?.getD undef = (.int .i64 E) := by have := hR 30 _ 3 rfl rfl; rwa [Array.getD_eq_getD_getElem?] at this
      have hB := HK.out.drew.grw hG
      obtain ⟨tm, df⟩ := a
      obtain ⟨hs, hdf, _⟩ := hF
      have hs' : tm.size = 52 := hs
      have hdf' : df = [] := hdf
      subst hdf'
      have he : tm = #[tm[0]?.getD undef, tm[1]?.getD undef, tm[2]?.getD undef, tm[3]?.getD undef, tm[4]?.getD undef, tm[5]?.getD undef, tm[6]?.getD undef, tm[7]?.getD undef, tm[8]?.getD undef, tm[9]?.getD undef, tm[10]?.getD undef, tm[11]?.getD undef, tm[12]?.getD undef, tm[13]?.getD undef, tm[14]?.getD undef, tm[15]?.getD undef, tm[16]?.getD undef, tm[17]?.getD undef, tm[18]?.getD undef, tm[19]?.getD undef, tm[20]?.getD undef, tm[21]?.getD undef, tm[22]?.getD undef, tm[23]?.getD undef, tm[24]?.getD undef, tm[25]?.getD undef, tm[26]?.getD undef, tm[27]?.getD undef, tm[28]?.getD undef, tm[29]?.getD undef, tm[30]?.getD undef, tm[31]?.getD undef, tm[32]?.getD undef, tm[33]?.getD undef, tm[34]?.getD undef, tm[35]?.getD undef, tm[36]?.getD undef, tm[37]?.getD undef, tm[38]?.getD undef, tm[39]?.getD undef, tm[40]?.getD undef, tm[41]?.getD undef, tm[42]?.getD undef, tm[43]?.getD undef, tm[44]?.getD undef, tm[45]?.getD undef, tm[46]?.getD undef, tm[47]?.getD undef, tm[48]?.getD undef, tm[49]?.getD undef, tm[50]?.getD undef, tm[51]?.getD undef] := tmps_eq tm 52 hs'
      simp at q0
      simp at q1
      rw [he]
      simp only [q0, q1, r2, p3]
      clear he hR hG hs hs' hdf q0 q1 r2 p3
      go_wp2_with fail
      go_meet
      exact ⟨r0, r1, rfl, rfl, ⟨r3, r4.2⟩, hB⟩
  case rest =>
    obtain ⟨a0, c0, rfl, rfl, hh, hB⟩ := hcut
    clear HK
    go_wp2_with fail
    go_ret2
    exact ⟨a0, c0, rfl, hh, hB.out.2.1⟩

/-- **codec.Record**, too long. -/
theorem record_large (Z : Nat → Int) (s : ByteArray) (w : World) (hf : recF Z = true) (hs : s.size ≤ 140737488351232) (h : 65511 < s.size) :
    Calls Tryd.prog 23 #[Rv Z s] w fun e w' => ∃ a c, e = .returned (.tuple #[.slice a 0 c, .int .i64 5]) ∧ Hid (Has w' a 0 [] ∧ 0 ≤ c ∧ c ≤ 9223372036854775807) ∧ Below w.heap.size w w' := by
  refine record_go Z s w hf (24 + s.size) rfl (by omega) 5 0 [] fun a c u hb hh h1 h2 => ?_
  refine (frame_big a (24 + s.size) c u (by omega) (by omega)).mono ?_
  rintro e w' ⟨rfl, rfl⟩
  exact ⟨_, rfl, ⟨_, _, rfl, Has.nil _, by simp, Nat.le_refl _, by omega⟩, Below.refl _ _⟩

/-- **codec.Record**. -/
theorem record_ok (Z : Nat → Int) (s : ByteArray) (w : World) (hf : recF Z = true) (h : s.size ≤ 65511) (hT : Tab w) :
    Calls Tryd.prog 23 #[Rv Z s] w fun e w' => ∃ a c, e = .returned (.tuple #[.slice a (24 + s.size + 6) c, .int .i64 0]) ∧ Hid (Has w' a (24 + s.size + 6) (frameB (recL Z s)) ∧ 24 + s.size + 6 ≤ c ∧ c ≤ 9223372036854775807) ∧ Below w.heap.size w w' := by
  refine record_go Z s w hf (24 + s.size) rfl (by omega) 0 _ _ fun a c u hb hh h1 h2 => ?_
  rw [layB_full (recL_length Z s)] at hh
  refine (frame_good a (24 + s.size) c (recL Z s) u (row_of_has hh (recL_byts Z s) h1 h2 (by omega)) (hT.below hb (tab_size hT)) (by omega)).mono ?_
  rintro e w' ⟨a', c', rfl, hO, hb'⟩
  exact ⟨_, rfl, ⟨_, _, rfl, hO.out.has, frameB_byts (recL_byts Z s), hO.out.2.1, by have := hO.out.2.2.1; unfold maxLen at this; omega⟩, hb'⟩

end Go.Proofs.YtmdkcoenjadieaaDoor
