/- Joined: CDir, CName2. -/
import Derived.Test.YtmdkcoenjadieaaDoorWCText
import Derived.Test.YtmdkcoenjadieaaDoorWJ29
/- Contract of codec.Dirent: the sixteen bytes. -/
namespace Go.Proofs.YtmdkcoenjadieaaDoor
open Go.RowKit Go.Shelf
set_option linter.unusedVariables false
set_option maxRecDepth 100000

/-- A name in a directory. -/
abbrev Dv (i : Int) (s : ByteArray) : Value := .agg #[.int .i64 i, .string s]
abbrev Dc (i : Int) (s : ByteArray) : Array Value := #[.int .i64 i, .string s]

def dirL (i : Int) (s : ByteArray) : List Int := numsB 2 [i] ++ byts s

theorem dirL_length (i : Int) (s : ByteArray) : (dirL i s).length = 2 + s.size := by rw [dirL, List.length_append, length_numsB, byts_length]; rfl

theorem dirL_byts (i : Int) (s : ByteArray) : ∀ z ∈ dirL i s, 0 ≤ z ∧ z ≤ 255 := by
  intro z hz
  rcases List.mem_append.1 hz with hz | hz
  · exact numsB_byte _ _ z hz
  · exact byts_byte _ z hz

theorem fit_one (wd : Nat) (hw : wd = 2 ∨ wd = 4) (z : Int) (u : World) (r : Bool) (hr : fitB wd [z] = r) :
    Calls Tryd.prog 44 #[.int .i64 (wd : Int), .slice (some ⟨u.heap.size, 0, none⟩) 1 1] (u.alloc (.cells #[.int .i64 z] 3)) fun e w' => e = .returned (.bool r) ∧ Below u.heap.size u w' := by
  subst hr
  refine (fit_any wd hw _ 1 1 [z] _ (ihas_list u [z]) (by omega)).mono ?_
  rintro e w' ⟨rfl, rfl⟩
  exact ⟨rfl, (Below.refl _ u).alloc (Nat.le_refl _) _⟩

set_option maxHeartbeats 4000000 in
theorem dirent_named (i : Int) (s : ByteArray) (w : World) (hi : i ≠ 0) (hs : s.size ≤ 13) (hf : fitB 2 [i] = true) (KN : Hid (∀ u, Calls Tryd.prog 68 #[.string s] u fun e w' => e = .returned (.int .i64 0) ∧ Below u.heap.size u w')) :
    Calls Tryd.prog 30 #[Dv i s] w fun e w' => ∃ a c, e = .returned (.tuple #[.slice a 16 c, .int .i64 0]) ∧ Hid (Has w' a 16 (layB 16 (dirL i s)) ∧ 16 ≤ c ∧ c ≤ 9223372036854775807) ∧ Below w.heap.size w w' := by
  have HK := hide (Bx.start w (Dc i s) 60)
  have F2 : Hid (∀ u : World, Calls Tryd.prog 44 #[.int .i64 2, .slice (some ⟨u.heap.size, 0, none⟩) 1 1] (u.alloc (.cells #[.int .i64 i] 3)) fun e w' => e = .returned (.bool true) ∧ Below u.heap.size u w') := fun u => fit_one 2 (.inl rfl) i u true hf
  have HF := hide hf
  have HS := hide hs
  have hi1 : (i == 0) = false := by simpa using hi
  have hi2 : (i != 0) = true := by simpa using hi
  clear hf hi hs
  go_enter Tryd.func30, Tryd.ntmps30
  go_wp2_with fail
  go_at_call 68
  refine (unhide KN _).mono ?_
  rintro e w1 ⟨rfl, hb⟩
  replace HK := hide ((unhide HK).call hb)
  have f0 := HK.out.1 0 _ rfl
  clear hb KN
  go_wp2_with fail
  go_at_call 44
  refine (unhide F2 _).mono ?_
  rintro e w2 ⟨rfl, hb⟩
  replace HK := hide ((unhide HK).call hb)
  clear f0 hb F2
  go_upto_region 7 with fail
  go_cut [2, 3] (fun c q wx => ∃ a0 c0, c = .slice a0 16 c0 ∧ q = .int .i64 0 ∧ Hid (Has wx a0 16 (layB 16 (dirL i s)) ∧ 16 ≤ c0 ∧ c0 ≤ 9223372036854775807) ∧ Hid (Bx w (Dc i s) wx))
  case first =>
    refine wp_region_sp (by kernel_rfl) w.heap.size [spVal (.pointer (some ⟨w.heap.size, 0, none⟩)), spVal (.int .i64 (i)), spInts [i], spBytes 2 (numsB 2 [i]), spVal (.pointer (some ⟨w.heap.size, 1, none⟩)), spVal (.string s), spBytes s.size (byts s), spParts 2 (dirL i s), spBytes 16 (layB 16 (dirL i s)), spBytes 16 (layB 16 (dirL i s)), spVal (.int .i64 0)] ?_ (by kernel_rfl) (by kernel_rfl) ?_ ?_
    · intro S hS
      simp only [List.mem_cons, List.not_mem_nil, or_false] at hS
      rcases hS with rfl | rfl | rfl | rfl | rfl | rfl | rfl | rfl | rfl | rfl | rfl <;> first | exact mono_val _ _ | exact mono_bytes _ _ _ | exact mono_lit _ _ | exact mono_ints _ _ | exact mono_parts _ _ _
    · intro i o a u hi hF hA hG
      have hB := HK.out.drew.grw hG
      have hn : w.heap.size ≤ u.heap.size := hB.2.1.size
      have tb : a.tmps[1]?.getD undef = .pointer (some ⟨w.heap.size, 0, none⟩) := fr_at hF 1 (by kernel_rfl)
      have hlt := (Array.getElem?_eq_some_iff.1 hi).1
      have hcs : i = 0 ∨ i = 1 ∨ i = 2 ∨ i = 3 ∨ i = 4 ∨ i = 5 ∨ i = 6 ∨ i = 7 ∨ i = 8 ∨ i = 9 ∨ i = 10 := by simp at hlt; omega
      clear hlt
      rcases hcs with rfl | rfl | rfl | rfl | rfl | rfl | rfl | rfl | rfl | rfl | rfl
      · have ho := Option.some.inj hi; subst ho
        have h0 := tb
        refine st_val (w' := u) rfl rfl (.pointer (some ⟨w.heap.size, 0, none⟩)) ?_ rfl (Grw.refl _ _)
        simp [execOp, Act.eval, h0, go_sem]
      · have ho := Option.some.inj hi; subst ho
        have h0 : a.tmps[26]?.getD undef = .pointer (some ⟨w.heap.size, 0, none⟩) := ahead_at hA 0 26 (by kernel_rfl) rfl
        have f0 := hB.1 0 _ rfl
        refine st_val (w' := u) rfl rfl (.int .i64 (i)) ?_ rfl (Grw.refl _ _)
        simp [execOp, Act.eval, h0, f0, go_sem]
      · have ho := Option.some.inj hi; subst ho
        have h0 : a.tmps[27]?.getD undef = .int .i64 (i) := ahead_at hA 1 27 (by kernel_rfl) rfl
        refine st_val (w' := u.alloc (.cells ([i].map (Value.int .i64)).toArray 3)) rfl rfl (.slice (some ⟨u.heap.size, 0, none⟩) 1 1) ?_ ⟨_, _, rfl, ihas_list u [i]⟩ (Grw.alloc _ _ _ hn)
        simp [execOp, Act.eval, h0, go_sem]
      · have ho := Option.some.inj hi; subst ho
        have h0 : spInts [i] (a.tmps[28]?.getD undef) u := ahead_at hA 2 28 (by kernel_rfl) rfl
        refine st_call rfl rfl 37 #[.int .i64 (2 : Nat), a.tmps[28]?.getD undef] ?_ hn (numbers_sp 2 (.inr (.inl rfl)) [i] _ u h0 (by simp) HF.out 2 rfl)
        simp [execOp, Act.eval, go_sem]
      · have ho := Option.some.inj hi; subst ho
        have h0 := tb
        refine st_val (w' := u) rfl rfl (.pointer (some ⟨w.heap.size, 1, none⟩)) ?_ rfl (Grw.refl _ _)
        simp [execOp, Act.eval, h0, go_sem]
      · have ho := Option.some.inj hi; subst ho
        have h0 : a.tmps[30]?.getD undef = .pointer (some ⟨w.heap.size, 1, none⟩) := ahead_at hA 4 30 (by kernel_rfl) rfl
        have f0 := hB.1 1 _ rfl
        refine st_val (w' := u) rfl rfl (.string s) ?_ rfl (Grw.refl _ _)
        simp [execOp, Act.eval, h0, f0, go_sem]
      · have ho := Option.some.inj hi; subst ho
        have h0 : a.tmps[31]?.getD undef = .string s := ahead_at hA 5 31 (by kernel_rfl) rfl
        obtain ⟨v, u', hr, hS, hg⟩ := text_conv w.heap.size s u hn (by have := HS.out; omega)
        refine st_val (w' := u') rfl rfl v ?_ hS hg
        simp [execOp, Act.eval, h0, hr, go_sem]
      · have ho := Option.some.inj hi; subst ho
        obtain ⟨p0, c0, e0, b0, _, _⟩ : spBytes 2 (numsB 2 [i]) (a.tmps[29]?.getD undef) u := ahead_at hA 3 29 (by kernel_rfl) rfl
        obtain ⟨p1, c1, e1, b1, _, _⟩ : spBytes s.size (byts s) (a.tmps[32]?.getD undef) u := ahead_at hA 6 32 (by kernel_rfl) rfl
        have hp := phas_list u [(p0, 2, c0, (numsB 2 [i])), (p1, s.size, c1, (byts s))] (by
          intro p hp
          simp only [List.mem_cons, List.not_mem_nil, or_false] at hp
          rcases hp with rfl | rfl
          · exact b0
          · exact b1)
        refine st_val (w' := u.alloc (.cells ([(p0, 2, c0, (numsB 2 [i])), (p1, s.size, c1, (byts s))].map pv).toArray 26)) rfl rfl (.slice (some ⟨u.heap.size, 0, none⟩) 2 2) ?_ ⟨_, _, _, rfl, hp, by simp [allP, dirL]⟩ (Grw.alloc _ _ _ hn)
        simp [execOp, Act.eval, e0, e1, go_sem]
        all_goals rfl
      · have ho := Option.some.inj hi; subst ho
        have h0 : spParts 2 (dirL i s) (a.tmps[33]?.getD undef) u := ahead_at hA 7 33 (by kernel_rfl) rfl
        refine st_call rfl rfl 36 #[.int .i64 ((16 : Nat) : Int), a.tmps[33]?.getD undef] ?_ hn ((lay_sp (16) 2 (dirL i s) _ u h0 (by omega) (by rw [dirL_length]; have := HS.out; omega) (by omega) (dirL_byts i s)).mono fun e w' ⟨v, e1, h1, h2⟩ => ⟨v, e1, h1.1, h2⟩)
        simp [execOp, Act.eval, go_sem]
      · have ho := Option.some.inj hi; subst ho
        have h0 : spBytes 16 (layB 16 (dirL i s)) (a.tmps[34]?.getD undef) u := ahead_at hA 8 34 (by kernel_rfl) rfl
        refine st_val (w' := u) rfl rfl (a.tmps[34]?.getD undef) ?_ h0 (Grw.refl _ _)
        simp [execOp, Act.eval, go_sem]
      · have ho := Option.some.inj hi; subst ho
        refine st_val (w' := u) rfl rfl (.int .i64 0) ?_ rfl (Grw.refl _ _)
        simp [execOp, Act.eval, go_sem]
    · intro a u hF hR hG
      have q0 := fr_at hF 0 (by kernel_rfl)
      have q1 := fr_at hF 1 (by kernel_rfl)
      obtain ⟨r0, r1, r2, r3, r4, r5⟩ : spBytes 16 (layB 16 (dirL i s)) (a.tmps[2]?.getD undef) u := by have := hR 9 _ 2 rfl rfl; rwa [Array.getD_eq_getD_getElem?] at this
      obtain p3 : a.tmps[3]?.getD undef = (.int .i64 0) := by have := hR 10 _ 3 rfl rfl; rwa [Array.getD_eq_getD_getElem?] at this
      have hB := HK.out.drew.grw hG
      obtain ⟨tm, df⟩ := a
      obtain ⟨hs, hdf, _⟩ := hF
      have hs' : tm.size = 35 := hs
      have hdf' : df = [] := hdf
      subst hdf'
      have he : tm = #[tm[0]?.getD undef, tm[1]?.getD undef, tm[2]?.getD undef, tm[3]?.getD undef, tm[4]?.getD undef, tm[5]?.getD undef, tm[6]?.getD undef, tm[7]?.getD undef, tm[8]?.getD undef, tm[9]?.getD undef, tm[10]?.getD undef, tm[11]?.getD undef, tm[12]?.getD undef, tm[13]?.getD undef, tm[14]?.getD undef, tm[15]?.getD undef, tm[16]?.getD undef, tm[17]?.getD undef, tm[18]?.getD undef, tm[19]?.getD undef, tm[20]?.getD undef, tm[21]?.getD undef, tm[22]?.getD undef, tm[23]?.getD undef, tm[24]?.getD undef, tm[25]?.getD undef, tm[26]?.getD undef, tm[27]?.getD undef, tm[28]?.getD undef, tm[29]?.getD undef, tm[30]?.getD undef, tm[31]?.getD undef, tm[32]?.getD undef, tm[33]?.getD undef, tm[34]?.getD undef] := tmps_eq tm 35 hs'
      simp at q0
      simp at q1
      rw [he]
      simp only [q0, q1, r2, p3]
      clear he hR hG hs hs' hdf q0 q1 r2 p3
      go_wp2_with fail
      go_meet
      exact ⟨r0, r1, rfl, rfl, ⟨r3, r5.1, r5.2⟩, hB⟩
  case rest =>
    obtain ⟨a0, c0, rfl, rfl, hh, hB⟩ := hcut
    clear HK
    go_wp2_with fail
    go_ret2
    exact ⟨a0, c0, rfl, hh, hB.out.2.1⟩

end Go.Proofs.YtmdkcoenjadieaaDoor

/- Contract of codec.Name: a name that is let. -/
namespace Go.Proofs.YtmdkcoenjadieaaDoor
open Go.RowKit Go.Shelf
set_option linter.unusedVariables false
set_option maxRecDepth 100000

/-- May a name have this byte? -/
def inName (z : Int) : Bool := (decide (97 ≤ z) && decide (z ≤ 122)) || (decide (48 ≤ z) && decide (z ≤ 57)) || decide (z = 46) || decide (z = 95) || decide (z = 45)

set_option maxHeartbeats 4000000 in
theorem inNames_any (z : Int) (w : World) (h0 : 0 ≤ z) (h1 : z ≤ 255) :
    Calls Tryd.prog 81 #[.int .u8 z] w fun e w' => e = .returned (.bool (inName z)) ∧ w = w' := by
  have hlast : ∀ b, (inName z = b) → Hid (inName z = b) := fun b h => h
  obtain ⟨b, hb⟩ : ∃ b, inName z = b := ⟨_, rfl⟩
  have HB := hlast b hb
  rw [hb]
  clear hlast
  unfold inName at hb
  by_cases a1 : 97 ≤ z
  · by_cases a2 : z ≤ 122
    · obtain rfl : b = true := by
        rw [← hb]
        simp
        omega
      have d0 : decide (97 ≤ z) = true := by simp; omega
      clear hb
      go_enter Tryd.func81, Tryd.ntmps81
      go_wp2
      go_ret
      exact ⟨rfl, rfl⟩
    · obtain rfl : b = false := by
        rw [← hb]
        simp
        omega
      have d0 : decide (97 ≤ z) = true := by simp; omega
      have d1 : decide (z ≤ 122) = false := by simp; omega
      have d2 : decide (48 ≤ z) = true := by simp; omega
      have d3 : decide (z ≤ 57) = false := by simp; omega
      have d4 : (z == 46) = false := by simp; omega
      have d5 : (z == 95) = false := by simp; omega
      have d6 : (z == 45) = false := by simp; omega
      clear hb
      go_enter Tryd.func81, Tryd.ntmps81
      go_wp2
      go_ret
      exact ⟨rfl, rfl⟩
  · by_cases a2 : 48 ≤ z
    · by_cases a3 : z ≤ 57
      · obtain rfl : b = true := by
          rw [← hb]
          simp
          omega
        have d0 : decide (97 ≤ z) = false := by simp; omega
        have d1 : decide (48 ≤ z) = true := by simp; omega
        clear hb
        go_enter Tryd.func81, Tryd.ntmps81
        go_wp2
        go_ret
        exact ⟨rfl, rfl⟩
      · by_cases a4 : z = 95
        · obtain rfl : b = true := by
            rw [← hb]
            simp
            omega
          have d0 : decide (97 ≤ z) = false := by simp; omega
          have d1 : decide (48 ≤ z) = true := by simp; omega
          have d2 : decide (z ≤ 57) = false := by simp; omega
          have d3 : (z == 46) = false := by simp; omega
          have d4 : (z == 95) = true := by simp; omega
          clear hb
          go_enter Tryd.func81, Tryd.ntmps81
          go_wp2
          go_ret
          exact ⟨rfl, rfl⟩
        · obtain rfl : b = false := by
            rw [← hb]
            simp
            omega
          have d0 : decide (97 ≤ z) = false := by simp; omega
          have d1 : decide (48 ≤ z) = true := by simp; omega
          have d2 : decide (z ≤ 57) = false := by simp; omega
          have d3 : (z == 46) = false := by simp; omega
          have d4 : (z == 95) = false := by simp; omega
          have d5 : (z == 45) = false := by simp; omega
          clear hb
          go_enter Tryd.func81, Tryd.ntmps81
          go_wp2
          go_ret
          exact ⟨rfl, rfl⟩
    · by_cases a3 : z = 46
      · obtain rfl : b = true := by
          rw [← hb]
          simp
          omega
        have d0 : decide (97 ≤ z) = false := by simp; omega
        have d1 : decide (48 ≤ z) = false := by simp; omega
        have d2 : (z == 46) = true := by simp; omega
        clear hb
        go_enter Tryd.func81, Tryd.ntmps81
        go_wp2
        go_ret
        exact ⟨rfl, rfl⟩
      · by_cases a4 : z = 45
        · obtain rfl : b = true := by
            rw [← hb]
            simp
            omega
          have d0 : decide (97 ≤ z) = false := by simp; omega
          have d1 : decide (48 ≤ z) = false := by simp; omega
          have d2 : (z == 46) = false := by simp; omega
          have d3 : (z == 95) = false := by simp; omega
          have d4 : (z == 45) = true := by simp; omega
          clear hb
          go_enter Tryd.func81, Tryd.ntmps81
          go_wp2
          go_ret
          exact ⟨rfl, rfl⟩
        · obtain rfl : b = false := by
            rw [← hb]
            simp
            omega
          have d0 : decide (97 ≤ z) = false := by simp; omega
          have d1 : decide (48 ≤ z) = false := by simp; omega
          have d2 : (z == 46) = false := by simp; omega
          have d3 : (z == 95) = false := by simp; omega
          have d4 : (z == 45) = false := by simp; omega
          clear hb
          go_enter Tryd.func81, Tryd.ntmps81
          go_wp2
          go_ret
          exact ⟨rfl, rfl⟩

set_option maxHeartbeats 4000000 in
theorem name_good (s : ByteArray) (w : World) (h1 : 1 ≤ s.size) (h2 : s.size ≤ 13) (h3 : (s.toList == [46]) = false) (h4 : (s.toList == [46, 46]) = false) (ha : ∀ z ∈ byts s, inName z = true) :
    Calls Tryd.prog 68 #[.string s] w fun e w' => e = .returned (.int .i64 0) ∧ Below w.heap.size w w' := by
  obtain ⟨v, u, hr, ⟨a, c, rfl, hh, hby, _, _⟩, hg⟩ := text_conv w.heap.size s w (Nat.le_refl _) (by omega)
  have HA := hide ha
  have HH := hide hh
  have HG := hide hg
  have HY := hide hby
  have hl := byts_length s
  have d1 : decide ((s.size : Int) < 1) = false := by simp; omega
  have d2 : decide ((s.size : Int) > 13) = false := by simp; omega
  generalize hn : s.size = n at *
  clear ha hh hg hby
  go_enter Tryd.func68, Tryd.ntmps68
  go_wp2
  go_loop [24] (fun i => ∃ k : Nat, k ≤ n ∧ i = .int .i64 (k : Int)) (fun i => n - (intOf i).toNat)
  case atStart => exact ⟨0, Nat.zero_le _, rfl⟩
  case round =>
    obtain ⟨k, hk, rfl⟩ := hrel
    by_cases hlt : k < n
    · obtain ⟨b, off, rfl, hc⟩ := HH.out.2 (by omega)
      have hck := hc k hlt
      have hmem : (byts s)[k]?.getD 0 ∈ byts s := by rw [List.getElem?_eq_getElem (by omega)]; exact List.getElem_mem _
      have hz := HY.out _ hmem
      have hin := HA.out _ hmem
      generalize (byts s)[k]?.getD 0 = z at *
      have KI : Hid (Calls Tryd.prog 81 #[.int .u8 z] u fun e w' => e = .returned (.bool true) ∧ u = w') := by
        have := inNames_any z u hz.1 hz.2
        rwa [hin] at this
      clear hc hmem hin
      go_wp2_with (go_at_call 81; refine (unhide KI).mono ?_; rintro e w' ⟨rfl, rfl⟩)
      exact ⟨⟨k + 1, by omega, by go_num⟩, by simp [intOf]; omega⟩
    · obtain rfl : k = n := by omega
      go_wp2
      go_ret
      exact ⟨rfl, HG.out.1⟩

end Go.Proofs.YtmdkcoenjadieaaDoor

