/- Contracts of skerryref06.Undirent; what program and reference answer alike. -/
import Derived.Test.YtmdkcoenjadieaaCRUnI
import Derived.Test.YtmdkcoenjadieaaCRDir
import Derived.Test.YtmdkcoenjadieaaCRText
namespace Go.Proofs.Ytmdkcoenjadieaa
open Go.RowKit Go.Shelf
set_option linter.unusedVariables false
set_option maxRecDepth 100000

set_option maxHeartbeats 4000000 in
theorem refUndirent_size (a : Option Addr) (len cap : Nat) (w : World) (hl : len ≤ 140737488351232) (h : ¬ len = 16) :
    Calls Try.prog 12 #[.slice a len cap] w fun e w' => e = .returned (.tuple #[.agg #[.int .i64 0, .string ⟨#[]⟩], .int .i64 4]) ∧ Below w.heap.size w w' := by
  have hd : ((len : Int) != 16) = true := by simp; omega
  have HZ := hide (Bl.new w #[.int .i64 0, .string ⟨#[]⟩] 26)
  have HB := hide ((Below.refl _ w).alloc (Nat.le_refl _) (.cells #[.int .i64 0, .string ⟨#[]⟩] 26))
  clear h
  go_enter Try.func12, Try.ntmps12
  go_wp2_with fail
  have hW := HB.out
  have hA := HZ.out
  change bodyPost _ _ _ _ _ (w.alloc (.cells #[.int .i64 0, .string ⟨#[]⟩] 26))
  generalize w.alloc (.cells #[.int .i64 0, .string ⟨#[]⟩] 26) = wf at *
  refine bodyPost_ret (v := .tuple #[.agg #[.int .i64 0, .string ⟨#[]⟩], .int .i64 4]) ?_ rfl ⟨rfl, hW⟩
  simp [results, Try.results12, go_sem, hA.cell 0 _ rfl, hA.cell 1 _ rfl]

set_option maxHeartbeats 4000000 in
theorem refUndirent_text (a : Option Addr) (len cap : Nat) (zs : List Int) (w : World) (hr : Row w.heap.size w a len cap zs) (h : len = 16) (ht : (textErr zs 2 13 != 0) = true) :
    Calls Try.prog 12 #[.slice a len cap] w fun e w' => e = .returned (.tuple #[.agg #[.int .i64 0, .string ⟨#[]⟩], .int .i64 4]) ∧ Below w.heap.size w w' := by
  have hl := hr.2.2.1.1
  have hd : ((len : Int) != 16) = false := by simp; omega
  have KT : Hid (∀ u, Below w.heap.size w u → Calls Try.prog 28 #[.slice a len cap, .int .i64 2, .int .i64 13] u fun e w' => e = .returned (.tuple #[.string (dirS zs), .int .i64 (textErr zs 2 13)]) ∧ u = w') :=
    fun u hb => refText_any a len cap zs 2 13 u (hr.below hb hb.size).has hr.2.1 hr.2.2.1.1 (by omega)
  have HZ := hide (Bl.new w #[.int .i64 0, .string ⟨#[]⟩] 26)
  have HB := hide ((Below.refl _ w).alloc (Nat.le_refl _) (.cells #[.int .i64 0, .string ⟨#[]⟩] 26))
  clear h hr
  generalize textErr zs 2 13 = q at *
  generalize dirS zs = S at *
  go_enter Try.func12, Try.ntmps12
  go_wp2_with fail
  go_at_call 28
  refine (unhide KT _ HB.out).mono ?_
  rintro e w' ⟨rfl, rfl⟩
  clear KT
  go_wp2_with fail
  have hW := HB.out
  have hA := HZ.out
  change bodyPost _ _ _ _ _ (w.alloc (.cells #[.int .i64 0, .string ⟨#[]⟩] 26))
  generalize w.alloc (.cells #[.int .i64 0, .string ⟨#[]⟩] 26) = wf at *
  refine bodyPost_ret (v := .tuple #[.agg #[.int .i64 0, .string ⟨#[]⟩], .int .i64 4]) ?_ rfl ⟨rfl, hW⟩
  simp [results, Try.results12, go_sem, hA.cell 0 _ rfl, hA.cell 1 _ rfl]

set_option maxHeartbeats 8000000 in
theorem refUndirent_err (a : Option Addr) (len cap : Nat) (zs : List Int) (w : World) (hr : Row w.heap.size w a len cap zs) (h : len = 16) (ht : textErr zs 2 13 = 0) (q : Int) (hq : (q != 0) = true) (K : Hid (∀ u, Calls Try.prog 10 #[Dv (dirI zs) (dirS zs)] u fun e w' => e = .returned (.tuple #[.slice none 0 0, .int .i64 q]) ∧ Below u.heap.size u w')) :
    Calls Try.prog 12 #[.slice a len cap] w fun e w' => e = .returned (.tuple #[.agg #[.int .i64 0, .string ⟨#[]⟩], .int .i64 4]) ∧ Below w.heap.size w w' := by
  have hl := hr.2.2.1.1
  have hd : ((len : Int) != 16) = false := by simp; omega
  have KT : Hid (∀ u, Below w.heap.size w u → Calls Try.prog 28 #[.slice a len cap, .int .i64 2, .int .i64 13] u fun e w' => e = .returned (.tuple #[.string (dirS zs), .int .i64 (textErr zs 2 13)]) ∧ u = w') :=
    fun u hb => refText_any a len cap zs 2 13 u (hr.below hb hb.size).has hr.2.1 hr.2.2.1.1 (by omega)
  rw [ht] at KT
  have KG : Hid (∀ u, Below w.heap.size w u → Calls Try.prog 24 #[.slice a len cap, .int .i64 0, .int .i64 2] u fun e w' => e = .returned (.int .i64 (dirI zs)) ∧ u = w') :=
    fun u hb => num_drop0 a len cap zs 0 2 u (hr.below hb hb.size) (by omega)
  have KH : Hid (∀ u, Below w.heap.size w u → Calls Try.prog 10 #[Dv (dirI zs) (dirS zs)] u fun e w' => e = .returned (.tuple #[.slice none 0 0, .int .i64 q]) ∧ Below u.heap.size u w') := fun u _ => K.out u
  have HZ := hide (Bl.new w #[.int .i64 0, .string ⟨#[]⟩] 26)
  have HB := hide ((Below.refl _ w).alloc (Nat.le_refl _) (.cells #[.int .i64 0, .string ⟨#[]⟩] 26))
  clear h hr ht K
  generalize hI : dirI zs = I at *
  generalize hS : dirS zs = S at *
  have HI := hide hI
  have HS := hide hS
  clear hI hS
  go_enter Try.func12, Try.ntmps12
  go_wp2_with fail
  go_at_call 28
  refine (unhide KT _ HB.out).mono ?_
  rintro e w' ⟨rfl, rfl⟩
  clear KT
  go_wp2_with fail
  go_at_call 24
  refine (unhide KG _ HB.out).mono ?_
  rintro e w' ⟨rfl, rfl⟩
  clear KG
  have e1 : (w.alloc (.cells #[.int .i64 0, .string ⟨#[]⟩] 26)).heap.size = w.heap.size + 1 := by simp
  have HV := hide (Bl.new (w.alloc (.cells #[.int .i64 0, .string ⟨#[]⟩] 26)) (Dc I S) 26)
  rw [e1] at HV
  replace HZ := hide (HZ.out.alloc (.cells (Dc I S) 26))
  replace HB := hide (HB.out.alloc HB.out.size (.cells (Dc I S) 26))
  go_upto_region 7 with fail
  change Code.wp _ _ _ _ ((w.alloc (.cells #[.int .i64 0, .string ⟨#[]⟩] 26)).alloc (.cells (Dc I S) 26))
  generalize (w.alloc (.cells #[.int .i64 0, .string ⟨#[]⟩] 26)).alloc (.cells (Dc I S) 26) = W at *
  clear e1
  have v0 := HV.out.cell 0 _ rfl
  have v1 := HV.out.cell 1 _ rfl
  go_wp2_with fail
  go_at_call 10
  refine (unhide KH _ HB.out).mono ?_
  rintro e w2 ⟨rfl, hb⟩
  replace HB := hide (bchain HB.out hb (Nat.le_refl _))
  replace HZ := hide (HZ.out.call hb)
  replace HV := hide (HV.out.call hb)
  clear hb KH v0 v1
  have hz := HZ.out.free
  have v0 := HV.out.cell 0 _ rfl
  have v1 := HV.out.cell 1 _ rfl
  have z0 := HZ.out.cell 0 _ rfl
  have z1 := HZ.out.cell 1 _ rfl
  go_wp2_with fail
  have hW : Below w.heap.size w (setAll w2 w.heap.size 0 [.int .i64 0, .string ⟨#[]⟩]) := below_setAll (Nat.le_refl _) _ _ _ _ HB.out
  have hA : Bl (setAll w2 w.heap.size 0 [.int .i64 0, .string ⟨#[]⟩]) w.heap.size #[.int .i64 0, .string ⟨#[]⟩] 26 := setAll_whole [.int .i64 0, .string ⟨#[]⟩] _ _ HZ.out rfl
  change bodyPost _ _ _ _ _ (setAll w2 w.heap.size 0 [.int .i64 0, .string ⟨#[]⟩])
  generalize setAll w2 w.heap.size 0 [.int .i64 0, .string ⟨#[]⟩] = wf at *
  refine bodyPost_ret (v := .tuple #[.agg #[.int .i64 0, .string ⟨#[]⟩], .int .i64 4]) ?_ rfl ⟨rfl, hW⟩
  simp [results, Try.results12, go_sem, hA.cell 0 _ rfl, hA.cell 1 _ rfl]

set_option maxHeartbeats 8000000 in
theorem refUndirent_cmp (a : Option Addr) (len cap : Nat) (zs : List Int) (w : World) (hr : Row w.heap.size w a len cap zs) (h : len = 16) (ht : textErr zs 2 13 = 0) (hE : dirE (dirI zs) (dirS zs) = 0) (r : Bool) (hr0 : decide (layB 16 (dirL (dirI zs) (dirS zs)) = zs) = !r) :
    Calls Try.prog 12 #[.slice a len cap] w fun e w' => e = .returned (.tuple #[if r then .agg #[.int .i64 0, .string ⟨#[]⟩] else Dv (dirI zs) (dirS zs), .int .i64 (if r then 4 else 0)]) ∧ Below w.heap.size w w' := by
  have hl := hr.2.2.1.1
  have hd : ((len : Int) != 16) = false := by simp; omega
  have KT : Hid (∀ u, Below w.heap.size w u → Calls Try.prog 28 #[.slice a len cap, .int .i64 2, .int .i64 13] u fun e w' => e = .returned (.tuple #[.string (dirS zs), .int .i64 (textErr zs 2 13)]) ∧ u = w') :=
    fun u hb => refText_any a len cap zs 2 13 u (hr.below hb hb.size).has hr.2.1 hr.2.2.1.1 (by omega)
  rw [ht] at KT
  have KG : Hid (∀ u, Below w.heap.size w u → Calls Try.prog 24 #[.slice a len cap, .int .i64 0, .int .i64 2] u fun e w' => e = .returned (.int .i64 (dirI zs)) ∧ u = w') :=
    fun u hb => num_drop0 a len cap zs 0 2 u (hr.below hb hb.size) (by omega)
  have KH : Hid (∀ u, Below w.heap.size w u → Calls Try.prog 10 #[Dv (dirI zs) (dirS zs)] u fun e w' => ∃ a' c', e = .returned (.tuple #[.slice a' 16 c', .int .i64 0]) ∧ (convert 27 9 (.slice a' 16 c')).run Try.prog w' = .ok (.string (strOfNums (layB 16 (dirL (dirI zs) (dirS zs))))) w' ∧ (convert 27 9 (.slice a len cap)).run Try.prog w' = .ok (.string (strOfNums zs)) w' ∧ Below u.heap.size u w') := by
    intro u hb
    refine (refDirent_ok (dirI zs) (dirS zs) u hE).mono ?_
    rintro e w' ⟨a', c', rfl, hO, hb'⟩
    have hru := (hr.below hb hb.size).below hb' hb'.size
    exact ⟨a', c', rfl, hO.out.conv c', hru.has.conv cap, hb'⟩
  have hne := str_ne (dir16 (dirI zs) (dirS zs)) hr.2.2.2.1 r hr0
  have HZ := hide (Bl.new w #[.int .i64 0, .string ⟨#[]⟩] 26)
  have HB := hide ((Below.refl _ w).alloc (Nat.le_refl _) (.cells #[.int .i64 0, .string ⟨#[]⟩] 26))
  clear h hr ht hE hr0
  generalize strOfNums (layB 16 (dirL (dirI zs) (dirS zs))) = S1 at *
  generalize strOfNums zs = S2 at *
  generalize hI : dirI zs = I at *
  generalize hS : dirS zs = S at *
  have HI := hide hI
  have HS := hide hS
  clear hI hS
  go_enter Try.func12, Try.ntmps12
  go_wp2_with fail
  go_at_call 28
  refine (unhide KT _ HB.out).mono ?_
  rintro e w' ⟨rfl, rfl⟩
  clear KT
  go_wp2_with fail
  go_at_call 24
  refine (unhide KG _ HB.out).mono ?_
  rintro e w' ⟨rfl, rfl⟩
  clear KG
  have e1 : (w.alloc (.cells #[.int .i64 0, .string ⟨#[]⟩] 26)).heap.size = w.heap.size + 1 := by simp
  have HV := hide (Bl.new (w.alloc (.cells #[.int .i64 0, .string ⟨#[]⟩] 26)) (Dc I S) 26)
  rw [e1] at HV
  replace HZ := hide (HZ.out.alloc (.cells (Dc I S) 26))
  replace HB := hide (HB.out.alloc HB.out.size (.cells (Dc I S) 26))
  go_upto_region 7 with fail
  change Code.wp _ _ _ _ ((w.alloc (.cells #[.int .i64 0, .string ⟨#[]⟩] 26)).alloc (.cells (Dc I S) 26))
  generalize (w.alloc (.cells #[.int .i64 0, .string ⟨#[]⟩] 26)).alloc (.cells (Dc I S) 26) = W at *
  clear e1
  have v0 := HV.out.cell 0 _ rfl
  have v1 := HV.out.cell 1 _ rfl
  go_wp2_with fail
  go_at_call 10
  refine (unhide KH _ HB.out).mono ?_
  rintro e w2 ⟨a', c', rfl, cv1, cv2, hb⟩
  replace HB := hide (bchain HB.out hb (Nat.le_refl _))
  replace HZ := hide (HZ.out.call hb)
  replace HV := hide (HV.out.call hb)
  clear hb KH v0 v1
  have hz := HZ.out.free
  have v0 := HV.out.cell 0 _ rfl
  have v1 := HV.out.cell 1 _ rfl
  have z0 := HZ.out.cell 0 _ rfl
  have z1 := HZ.out.cell 1 _ rfl
  cases r
  · go_wp2_with fail
    have hW : Below w.heap.size w (setAll w2 w.heap.size 0 [.int .i64 I, .string S]) := below_setAll (Nat.le_refl _) _ _ _ _ HB.out
    have hA : Bl (setAll w2 w.heap.size 0 [.int .i64 I, .string S]) w.heap.size #[.int .i64 I, .string S] 26 := setAll_whole [.int .i64 I, .string S] _ _ HZ.out rfl
    change bodyPost _ _ _ _ _ (setAll w2 w.heap.size 0 [.int .i64 I, .string S])
    generalize setAll w2 w.heap.size 0 [.int .i64 I, .string S] = wf at *
    refine bodyPost_ret (v := .tuple #[Dv I S, .int .i64 0]) ?_ rfl ⟨by first | rfl | (rw [HI.out, HS.out]; done) | (rw [HI.out, HS.out]; rfl), hW⟩
    simp [results, Try.results12, go_sem, hA.cell 0 _ rfl, hA.cell 1 _ rfl]
  · go_wp2_with fail
    have hW : Below w.heap.size w (setAll w2 w.heap.size 0 [.int .i64 0, .string ⟨#[]⟩]) := below_setAll (Nat.le_refl _) _ _ _ _ HB.out
    have hA : Bl (setAll w2 w.heap.size 0 [.int .i64 0, .string ⟨#[]⟩]) w.heap.size #[.int .i64 0, .string ⟨#[]⟩] 26 := setAll_whole [.int .i64 0, .string ⟨#[]⟩] _ _ HZ.out rfl
    change bodyPost _ _ _ _ _ (setAll w2 w.heap.size 0 [.int .i64 0, .string ⟨#[]⟩])
    generalize setAll w2 w.heap.size 0 [.int .i64 0, .string ⟨#[]⟩] = wf at *
    refine bodyPost_ret (v := .tuple #[.agg #[.int .i64 0, .string ⟨#[]⟩], .int .i64 4]) ?_ rfl ⟨rfl, hW⟩
    simp [results, Try.results12, go_sem, hA.cell 0 _ rfl, hA.cell 1 _ rfl]

theorem dirent_ans (i : Int) (s : ByteArray) (hm : s.size ≤ 9223372036854775807) : ∃ E n L, ∀ u, WAI 9 #[Dv i s] E n L u ∧ WAI 10 #[Dv i s] E n L u := by
  by_cases hE : dirE i s = 0
  · refine ⟨0, 16, layB 16 (dirL i s), fun u => ⟨?_, refDirent_ok i s u hE⟩⟩
    refine Calls.mono (dirent_ok i s u hE) ?_
    rintro e w' ⟨a, c, rfl, hh, hb⟩
    exact ⟨a, c, rfl, hh.out.1, hb⟩
  · exact ⟨dirE i s, 0, [], fun u => ⟨wai_err (dirent_err i s u hm hE), wai_err (refDirent_err i s u hm hE)⟩⟩

theorem dirIs_len {zs : List Int} (h : dirIs zs) : zs.length = 16 := by
  have := h.2
  rw [← this]
  refine length_layB ?_
  rw [dirL_length]
  have : (dirS zs).size ≤ 13 := textVal_size zs 2 13
  omega

theorem zeroB_rep (m : Nat) : zeroB (List.replicate m 0) = true := by unfold zeroB; rw [lead_replicate]; simp

/-- Of the bytes of a name no error of the text. -/
theorem text_good {zs : List Int} (h : dirIs zs) : textErr zs 2 13 = 0 := by
  have hlen := dirIs_len h
  have hp : partErr zs.length 2 13 = 0 := by rw [hlen]; exact partErr_ok (by omega) (by omega) (by omega)
  by_cases ht : textErr zs 2 13 = 0
  · exact ht
  · have hS : dirS zs = strOfNums [] := by unfold dirS textVal; rw [if_neg ht]
    have hsz : (dirS zs).size = 0 := by rw [hS, size_strOf]; rfl
    have hb : byts (dirS zs) = [] := List.eq_nil_of_length_eq_zero (by rw [byts_length]; exact hsz)
    have h2 := h.2
    have hd : partOf zs 2 13 = List.replicate 13 0 := by
      have e : dirL (dirI zs) (dirS zs) = digits 2 (dirI zs) := by simp [dirL, numsB, hb]
      rw [e] at h2
      unfold partOf
      rw [← h2]
      have e2 : layB 16 (digits 2 (dirI zs)) = digits 2 (dirI zs) ++ List.replicate 14 0 := by unfold layB; rw [length_digits]
      rw [e2, List.drop_append_of_le_length (by rw [length_digits]; decide), List.drop_of_length_le (by rw [length_digits]; decide)]
      rfl
    exfalso
    apply ht
    unfold textErr
    rw [if_pos hp, hd, if_pos]
    have hl : lead isz (List.replicate 13 0) = 0 := rfl
    rw [hl, List.drop_zero]
    exact zeroB_rep 13

theorem undirent_ans (a : Option Addr) (len cap : Nat) (zs : List Int) : ∃ i s q, ∀ u, Row u.heap.size u a len cap zs → RAI 11 #[.slice a len cap] (Dv i s) q u ∧ RAI 12 #[.slice a len cap] (Dv i s) q u := by
  have hs : (dirS zs).size ≤ 9223372036854775807 := by
    have : (dirS zs).size ≤ 13 := textVal_size zs 2 13
    omega
  by_cases h : dirIs zs ∧ textErr zs 2 13 = 0
  · refine ⟨dirI zs, dirS zs, 0, fun u hr => ⟨undirent_yes a len cap zs u hr h.1, ?_⟩⟩
    exact refUndirent_cmp a len cap zs u hr (by rw [← hr.1]; exact dirIs_len h.1) h.2 h.1.1 false (by simp [h.1.2])
  · by_cases hD : dirIs zs
    · exact absurd ⟨hD, text_good hD⟩ h
    · refine ⟨0, ⟨#[]⟩, 4, fun u hr => ⟨undirent_no a len cap zs u hr hD, ?_⟩⟩
      by_cases hl : len = 16
      · by_cases ht : textErr zs 2 13 = 0
        · by_cases hE : dirE (dirI zs) (dirS zs) = 0
          · exact refUndirent_cmp a len cap zs u hr hl ht hE true (by simp; exact fun e => hD ⟨hE, e⟩)
          · exact refUndirent_err a len cap zs u hr hl ht _ (by simpa using hE) (fun u => refDirent_err _ _ u hs hE)
        · exact refUndirent_text a len cap zs u hr hl (by simpa using ht)
      · exact refUndirent_size a len cap u hr.2.2.1.1 hl

end Go.Proofs.Ytmdkcoenjadieaa
