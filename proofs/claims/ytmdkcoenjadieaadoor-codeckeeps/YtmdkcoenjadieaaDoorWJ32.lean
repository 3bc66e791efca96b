/- Joined: CDir2, CWakes. -/
import Derived.Test.YtmdkcoenjadieaaDoorWCNameA
import Derived.Test.YtmdkcoenjadieaaDoorWJ30
/- Contracts of codec.Dirent: all ways. -/
namespace Go.Proofs.YtmdkcoenjadieaaDoor
open Go.RowKit Go.Shelf
set_option linter.unusedVariables false
set_option maxRecDepth 100000

set_option maxHeartbeats 4000000 in
theorem dirent_form (i : Int) (s : ByteArray) (w : World) (hi : i = 0) (hs : (s.toList == []) = false) :
    Calls Tryd.prog 30 #[Dv i s] w fun e w' => e = .returned (.tuple #[.slice none 0 0, .int .i64 4]) ∧ Below w.heap.size w w' := by
  have HK := hide (Bx.start w (Dc i s) 60)
  have hi1 : (i == 0) = true := by simpa using hi
  clear hi
  go_enter Tryd.func30, Tryd.ntmps30
  go_wp2_with fail
  go_ret2
  exact ⟨rfl, HK.out.2.1⟩

set_option maxHeartbeats 4000000 in
theorem dirent_name (i : Int) (s : ByteArray) (w : World) (hi : i ≠ 0) (hm : s.size ≤ 9223372036854775807) (hn : nameB s = false) :
    Calls Tryd.prog 30 #[Dv i s] w fun e w' => e = .returned (.tuple #[.slice none 0 0, .int .i64 16]) ∧ Below w.heap.size w w' := by
  have HK := hide (Bx.start w (Dc i s) 60)
  have KN : Hid (∀ u, Calls Tryd.prog 68 #[.string s] u fun e w' => e = .returned (.int .i64 16) ∧ Below u.heap.size u w') := fun u => name_no s u hm hn
  have hi1 : (i == 0) = false := by simpa using hi
  have hi2 : (i != 0) = true := by simpa using hi
  clear hi hm hn
  go_enter Tryd.func30, Tryd.ntmps30
  go_wp2_with fail
  go_at_call 68
  refine (unhide KN _).mono ?_
  rintro e w1 ⟨rfl, hb⟩
  replace HK := hide ((unhide HK).call hb)
  clear hb KN
  go_wp2_with fail
  go_ret2
  exact ⟨rfl, HK.out.2.1⟩

set_option maxHeartbeats 4000000 in
theorem dirent_value (i : Int) (s : ByteArray) (w : World) (hi : i ≠ 0) (hn : nameB s = true) (hf : fitB 2 [i] = false) :
    Calls Tryd.prog 30 #[Dv i s] w fun e w' => e = .returned (.tuple #[.slice none 0 0, .int .i64 3]) ∧ Below w.heap.size w w' := by
  have HK := hide (Bx.start w (Dc i s) 60)
  have KN : Hid (∀ u, Calls Tryd.prog 68 #[.string s] u fun e w' => e = .returned (.int .i64 0) ∧ Below u.heap.size u w') := fun u => name_yes s u hn
  have F2 : Hid (∀ u : World, Calls Tryd.prog 44 #[.int .i64 2, .slice (some ⟨u.heap.size, 0, none⟩) 1 1] (u.alloc (.cells #[.int .i64 i] 3)) fun e w' => e = .returned (.bool false) ∧ Below u.heap.size u w') := fun u => fit_one 2 (.inl rfl) i u false hf
  have hi1 : (i == 0) = false := by simpa using hi
  have hi2 : (i != 0) = true := by simpa using hi
  clear hi hn hf
  go_enter Tryd.func30, Tryd.ntmps30
  go_wp2_with fail
  go_at_call 68
  refine (unhide KN _).mono ?_
  rintro e w1 ⟨rfl, hb⟩
  replace HK := hide ((unhide HK).call hb)
  have f0 := HK.out.1 0 _ rfl
  clear hb KN
  go_wp2_with fail
  go_at_call 44
  refine (unhide F2 _).mono ?_
  rintro e w2 ⟨rfl, hb⟩
  replace HK := hide ((unhide HK).call hb)
  clear f0 hb F2
  go_wp2_with fail
  go_ret2
  exact ⟨rfl, HK.out.2.1⟩

set_option maxHeartbeats 4000000 in
theorem dirent_none (i : Int) (s : ByteArray) (w : World) (hi : i = 0) (hs : s.size ≤ 13) (hs0 : (s.toList == []) = true) (hf : fitB 2 [i] = true) :
    Calls Tryd.prog 30 #[Dv i s] w fun e w' => ∃ a c, e = .returned (.tuple #[.slice a 16 c, .int .i64 0]) ∧ Hid (Has w' a 16 (layB 16 (dirL i s)) ∧ 16 ≤ c ∧ c ≤ 9223372036854775807) ∧ Below w.heap.size w w' := by
  have HK := hide (Bx.start w (Dc i s) 60)
  have F2 : Hid (∀ (u : World) (g : Nat), g = u.heap.size → Calls Tryd.prog 44 #[.int .i64 2, .slice (some ⟨g, 0, none⟩) 1 1] (u.alloc (.cells #[.int .i64 i] 3)) fun e w' => e = .returned (.bool true) ∧ Below u.heap.size u w') := fun u g hg => by subst hg; exact fit_one 2 (.inl rfl) i u true hf
  have HF := hide hf
  have HS := hide hs
  have hi1 : (i == 0) = true := by simpa using hi
  have hi2 : (i != 0) = false := by simpa using hi
  clear hf hi hs
  go_enter Tryd.func30, Tryd.ntmps30
  go_wp2_with fail
  go_at_call 44
  refine (unhide F2 _ _ (by simp)).mono ?_
  rintro e w2 ⟨rfl, hb⟩
  replace HK := hide ((unhide HK).call hb)
  clear hb F2
  go_upto_region 7 with fail
  go_cut [2, 3] (fun c q wx => ∃ a0 c0, c = .slice a0 16 c0 ∧ q = .int .i64 0 ∧ Hid (Has wx a0 16 (layB 16 (dirL i s)) ∧ 16 ≤ c0 ∧ c0 ≤ 9223372036854775807) ∧ Hid (Bx w (Dc i s) wx))
  case first =>
    refine wp_region_sp (by kernel_rfl) w.heap.size [spVal (.pointer (some ⟨w.heap.size, 0, none⟩)), spVal (.int .i64 (i)), spInts [i], spBytes 2 (numsB 2 [i]), spVal (.pointer (some ⟨w.heap.size, 1, none⟩)), spVal (.string s), spBytes s.size (byts s), spParts 2 (dirL i s), spBytes 16 (layB 16 (dirL i s)), spBytes 16 (layB 16 (dirL i s)), spVal (.int .i64 0)] ?_ (by kernel_rfl) (by kernel_rfl) ?_ ?_
    · intro S hS
      simp only [List.mem_cons, List.not_mem_nil, or_false] at hS
      rcases hS with rfl | rfl | rfl | rfl | rfl | rfl | rfl | rfl | rfl | rfl | rfl <;> first | exact mono_val _ _ | exact mono_bytes _ _ _ | exact mono_lit _ _ | exact mono_ints _ _ | exact mono_parts _ _ _
    · intro i o a u hi hF hA hG
      have hB := HK.out.drew.grw hG
      have hn : w.heap.size ≤ u.heap.size := hB.2.1.size
      have tb : a.tmps[1]?.getD undef = .pointer (some ⟨w.heap.size, 0, none⟩) := fr_at hF 1 (by kernel_rfl)
      have hlt := (Array.getElem?_eq_some_iff.1 hi).1
      have hcs : i = 0 ∨ i = 1 ∨ i = 2 ∨ i = 3 ∨ i = 4 ∨ i = 5 ∨ i = 6 ∨ i = 7 ∨ i = 8 ∨ i = 9 ∨ i = 10 := by simp at hlt; omega
      clear hlt
      rcases hcs with rfl | rfl | rfl | rfl | rfl | rfl | rfl | rfl | rfl | rfl | rfl
      · have ho := Option.some.inj hi; subst ho
        have h0 := tb
        refine st_val (w' := u) rfl rfl (.pointer (some ⟨w.heap.size, 0, none⟩)) ?_ rfl (Grw.refl _ _)
        simp [execOp, Act.eval, h0, go_sem]
      · have ho := Option.some.inj hi; subst ho
        have h0 : a.tmps[26]?.getD undef = .pointer (some ⟨w.heap.size, 0, none⟩) := ahead_at hA 0 26 (by kernel_rfl) rfl
        have f0 := hB.1 0 _ rfl
        refine st_val (w' := u) rfl rfl (.int .i64 (i)) ?_ rfl (Grw.refl _ _)
        simp [execOp, Act.eval, h0, f0, go_sem]
      · have ho := Option.some.inj hi; subst ho
        have h0 : a.tmps[27]?.getD undef = .int .i64 (i) := ahead_at hA 1 27 (by kernel_rfl) rfl
        refine st_val (w' := u.alloc (.cells ([i].map (Value.int .i64)).toArray 3)) rfl rfl (.slice (some ⟨u.heap.size, 0, none⟩) 1 1) ?_ ⟨_, _, rfl, ihas_list u [i]⟩ (Grw.alloc _ _ _ hn)
        simp [execOp, Act.eval, h0, go_sem]
      · have ho := Option.some.inj hi; subst ho
        have h0 : spInts [i] (a.tmps[28]?.getD undef) u := ahead_at hA 2 28 (by kernel_rfl) rfl
        refine st_call rfl rfl 37 #[.int .i64 (2 : Nat), a.tmps[28]?.getD undef] ?_ hn (numbers_sp 2 (.inr (.inl rfl)) [i] _ u h0 (by simp) HF.out 2 rfl)
        simp [execOp, Act.eval, go_sem]
      · have ho := Option.some.inj hi; subst ho
        have h0 := tb
        refine st_val (w' := u) rfl rfl (.pointer (some ⟨w.heap.size, 1, none⟩)) ?_ rfl (Grw.refl _ _)
        simp [execOp, Act.eval, h0, go_sem]
      · have ho := Option.some.inj hi; subst ho
        have h0 : a.tmps[30]?.getD undef = .pointer (some ⟨w.heap.size, 1, none⟩) := ahead_at hA 4 30 (by kernel_rfl) rfl
        have f0 := hB.1 1 _ rfl
        refine st_val (w' := u) rfl rfl (.string s) ?_ rfl (Grw.refl _ _)
        simp [execOp, Act.eval, h0, f0, go_sem]
      · have ho := Option.some.inj hi; subst ho
        have h0 : a.tmps[31]?.getD undef = .string s := ahead_at hA 5 31 (by kernel_rfl) rfl
        obtain ⟨v, u', hr, hS, hg⟩ := text_conv w.heap.size s u hn (by have := HS.out; omega)
        refine st_val (w' := u') rfl rfl v ?_ hS hg
        simp [execOp, Act.eval, h0, hr, go_sem]
      · have ho := Option.some.inj hi; subst ho
        obtain ⟨p0, c0, e0, b0, _, _⟩ : spBytes 2 (numsB 2 [i]) (a.tmps[29]?.getD undef) u := ahead_at hA 3 29 (by kernel_rfl) rfl
        obtain ⟨p1, c1, e1, b1, _, _⟩ : spBytes s.size (byts s) (a.tmps[32]?.getD undef) u := ahead_at hA 6 32 (by kernel_rfl) rfl
        have hp := phas_list u [(p0, 2, c0, (numsB 2 [i])), (p1, s.size, c1, (byts s))] (by
          intro p hp
          simp only [List.mem_cons, List.not_mem_nil, or_false] at hp
          rcases hp with rfl | rfl
          · exact b0
          · exact b1)
        refine st_val (w' := u.alloc (.cells ([(p0, 2, c0, (numsB 2 [i])), (p1, s.size, c1, (byts s))].map pv).toArray 26)) rfl rfl (.slice (some ⟨u.heap.size, 0, none⟩) 2 2) ?_ ⟨_, _, _, rfl, hp, by simp [allP, dirL]⟩ (Grw.alloc _ _ _ hn)
        simp [execOp, Act.eval, e0, e1, go_sem]
        all_goals rfl
      · have ho := Option.some.inj hi; subst ho
        have h0 : spParts 2 (dirL i s) (a.tmps[33]?.getD undef) u := ahead_at hA 7 33 (by kernel_rfl) rfl
        refine st_call rfl rfl 36 #[.int .i64 ((16 : Nat) : Int), a.tmps[33]?.getD undef] ?_ hn ((lay_sp (16) 2 (dirL i s) _ u h0 (by omega) (by rw [dirL_length]; have := HS.out; omega) (by omega) (dirL_byts i s)).mono fun e w' ⟨v, e1, h1, h2⟩ => ⟨v, e1, h1.1, h2⟩)
        simp [execOp, Act.eval, go_sem]
      · have ho := Option.some.inj hi; subst ho
        have h0 : spBytes 16 (layB 16 (dirL i s)) (a.tmps[34]?.getD undef) u := ahead_at hA 8 34 (by kernel_rfl) rfl
        refine st_val (w' := u) rfl rfl (a.tmps[34]?.getD undef) ?_ h0 (Grw.refl _ _)
        simp [execOp, Act.eval, go_sem]
      · have ho := Option.some.inj hi; subst ho
        refine st_val (w' := u) rfl rfl (.int .i64 0) ?_ rfl (Grw.refl _ _)
        simp [execOp, Act.eval, go_sem]
    · intro a u hF hR hG
      have q0 := fr_at hF 0 (by kernel_rfl)
      have q1 := fr_at hF 1 (by kernel_rfl)
      obtain ⟨r0, r1, r2, r3, r4, r5⟩ : spBytes 16 (layB 16 (dirL i s)) (a.tmps[2]?.getD undef) u := by have := hR 9 _ 2 rfl rfl; rwa [Array.getD_eq_getD_getElem?] at this
      obtain p3 : a.tmps[3]?.getD undef = (.int .i64 0) := by have := hR 10 _ 3 rfl rfl; rwa [Array.getD_eq_getD_getElem?] at this
      have hB := HK.out.drew.grw hG
      obtain ⟨tm, df⟩ := a
      obtain ⟨hs, hdf, _⟩ := hF
      have hs' : tm.size = 35 := hs
      have hdf' : df = [] := hdf
      subst hdf'
      have he : tm = #[tm[0]?.getD undef, tm[1]?.getD undef, tm[2]?.getD undef, tm[3]?.getD undef, tm[4]?.getD undef, tm[5]?.getD undef, tm[6]?.getD undef, tm[7]?.getD undef, tm[8]?.getD undef, tm[9]?.getD undef, tm[10]?.getD undef, tm[11]?.getD undef, tm[12]?.getD undef, tm[13]?.getD undef, tm[14]?.getD undef, tm[15]?.getD undef, tm[16]?.getD undef, tm[17]?.getD undef, tm[18]?.getD undef, tm[19]?.getD undef, tm[20]?.getD undef, tm[21]?.getD undef, tm[22]?.getD undef, tm[23]?.getD undef, tm[24]?.getD undef, tm[25]?.getD undef, tm[26]?.getD undef, tm[27]?.getD undef, tm[28]?.getD undef, tm[29]?.getD undef, tm[30]?.getD undef, tm[31]?.getD undef, tm[32]?.getD undef, tm[33]?.getD undef, tm[34]?.getD undef] := tmps_eq tm 35 hs'
      simp at q0
      simp at q1
      rw [he]
      simp only [q0, q1, r2, p3]
      clear he hR hG hs hs' hdf q0 q1 r2 p3
      go_wp2_with fail
      go_meet
      exact ⟨r0, r1, rfl, rfl, ⟨r3, r5.1, r5.2⟩, hB⟩
  case rest =>
    obtain ⟨a0, c0, rfl, rfl, hh, hB⟩ := hcut
    clear HK
    go_wp2_with fail
    go_ret2
    exact ⟨a0, c0, rfl, hh, hB.out.2.1⟩

/-- The error of a name in a directory. -/
def dirE (i : Int) (s : ByteArray) : Int := if i = 0 then (if s.size = 0 then 0 else 4) else if nameB s = true then (if fitB 2 [i] = true then 0 else 3) else 16

theorem toList_nil (s : ByteArray) : (s.toList == []) = decide (s.size = 0) := by
  rw [ByteArray.toList_eq]
  have : s.size = s.data.toList.length := by rw [Array.length_toList]; rfl
  rw [this]
  cases s.data.toList with
  | nil => rfl
  | cons a l => rfl

theorem nameB_size {s : ByteArray} (h : nameB s = true) : s.size ≤ 13 := by
  unfold nameB at h
  simp only [Bool.and_eq_true, decide_eq_true_eq] at h
  exact h.1.1.1.2

theorem dirent_ok (i : Int) (s : ByteArray) (w : World) (h : dirE i s = 0) :
    Calls Tryd.prog 30 #[Dv i s] w fun e w' => ∃ a c, e = .returned (.tuple #[.slice a 16 c, .int .i64 0]) ∧ Hid (Has w' a 16 (layB 16 (dirL i s)) ∧ 16 ≤ c ∧ c ≤ 9223372036854775807) ∧ Below w.heap.size w w' := by
  unfold dirE at h
  by_cases hi : i = 0
  · rw [if_pos hi] at h
    have hs : s.size = 0 := by
      by_cases hs : s.size = 0
      · exact hs
      · rw [if_neg hs] at h; omega
    exact dirent_none i s w hi (by omega) (by rw [toList_nil]; exact decide_eq_true hs) (by rw [hi]; decide)
  · rw [if_neg hi] at h
    by_cases hn : nameB s = true
    · rw [if_pos hn] at h
      by_cases hf : fitB 2 [i] = true
      · exact dirent_named i s w hi (nameB_size hn) hf (fun u => name_yes s u hn)
      · rw [if_neg hf] at h; omega
    · rw [if_neg hn] at h; omega

theorem dirent_err (i : Int) (s : ByteArray) (w : World) (hm : s.size ≤ 9223372036854775807) (h : dirE i s ≠ 0) :
    Calls Tryd.prog 30 #[Dv i s] w fun e w' => e = .returned (.tuple #[.slice none 0 0, .int .i64 (dirE i s)]) ∧ Below w.heap.size w w' := by
  unfold dirE at h ⊢
  by_cases hi : i = 0
  · rw [if_pos hi] at h ⊢
    have hs : ¬ s.size = 0 := fun hs => by rw [if_pos hs] at h; exact h rfl
    rw [if_neg hs]
    exact dirent_form i s w hi (by rw [toList_nil]; exact decide_eq_false hs)
  · rw [if_neg hi] at h ⊢
    by_cases hn : nameB s = true
    · rw [if_pos hn] at h ⊢
      by_cases hf : fitB 2 [i] = true
      · rw [if_pos hf] at h; exact absurd rfl h
      · rw [if_neg hf]
        exact dirent_value i s w hi hn (by simpa using hf)
    · rw [if_neg hn]
      exact dirent_name i s w hi hm (by simpa using hn)

end Go.Proofs.YtmdkcoenjadieaaDoor

/- Contract of the fixed call. -/
namespace Go.Proofs.YtmdkcoenjadieaaDoor
open Go.RowKit Go.Shelf
set_option linter.unusedVariables false
set_option maxRecDepth 100000

/-- ab. -/
def abS : ByteArray := ⟨#[97, 98]⟩

def wakeS : ByteArray := ⟨#[3, 0, 97, 98, 0, 0, 0, 0, 0, 0, 0, 0, 0, 0, 0, 0]⟩

theorem wake_bytes : strOfNums (layB 16 (dirL 3 abS)) = wakeS := by decide +kernel

theorem name_ab (u : World) : Calls Tryd.prog 68 #[.string abS] u fun e w' => e = .returned (.int .i64 0) ∧ Below u.heap.size u w' :=
  name_good abS u (by decide +kernel) (by decide +kernel) (by decide +kernel) (by decide +kernel) (by decide +kernel)

set_option maxHeartbeats 2000000 in
theorem wakes_any (w : World) : Calls Tryd.prog 8 #[] w fun e w' => e = .returned (.bool true) ∧ Below w.heap.size w w' := by
  have K : Hid (∀ u, Calls Tryd.prog 30 #[.agg #[.int .i64 3, .string ⟨#[97, 98]⟩]] u fun e w' => ∃ a c, e = .returned (.tuple #[.slice a 16 c, .int .i64 0]) ∧ (∀ n, (convert 26 9 (.slice a 16 c)).run Tryd.prog (w'.drewN n) = .ok (.string wakeS) (w'.drewN n)) ∧ (convert 26 9 (.slice a 16 c)).run Tryd.prog w' = .ok (.string wakeS) w' ∧ Below u.heap.size u w') := by
    intro u
    refine (dirent_named 3 abS u (by omega) (by decide +kernel) (by decide +kernel) (fun u => name_ab u)).mono ?_
    rintro e w' ⟨a, c, rfl, hh, hb⟩
    have h1 := hh.out.1.conv c
    have h2 := fun n => (hh.out.1.drewN n).conv c
    rw [wake_bytes] at h1
    refine ⟨a, c, rfl, fun n => ?_, h1, hb⟩
    have := h2 n
    rwa [wake_bytes] at this
  go_enter Tryd.func8, Tryd.ntmps8
  go_wp2_with fail
  go_at_call 30
  refine (unhide K _).mono ?_
  rintro e w1 ⟨a, c, rfl, hcn, hc1, hb⟩
  have HB := hide hb
  have hw1 : (wakeS.toList == [3, 0, 97, 98, 0, 0, 0, 0, 0, 0, 0, 0, 0, 0, 0, 0]) = true := by decide +kernel
  clear hb K hcn
  go_wp2_with fail
  go_ret
  exact ⟨rfl, HB.out⟩

end Go.Proofs.YtmdkcoenjadieaaDoor

