/- Contracts of skerryref06.Inode. -/
import Derived.Test.YtmdkcoenjadieaaCIno2
import Derived.Test.YtmdkcoenjadieaaCTakeI
import Derived.Test.YtmdkcoenjadieaaCRef
namespace Go.Proofs.Ytmdkcoenjadieaa
open Go.RowKit Go.Shelf
set_option linter.unusedVariables false
set_option maxRecDepth 100000

theorem Bx.low {w u u' : World} {cs : Array Value} (h : Bx w cs u) (hb : Below (w.heap.size + 1) u u') : Bx w cs u' :=
  ⟨fun k v hk => (hb.cell (p := ⟨w.heap.size, k, none⟩) (Nat.lt_succ_self _)).trans (h.1 k v hk), h.2.1.trans (hb.mono (Nat.le_succ _)), Nat.lt_of_lt_of_le h.2.2 hb.size⟩

theorem Own.none (B : Nat) (u : World) : Own B u none 0 0 [] := ⟨rfl, Nat.le_refl _, Nat.zero_le _, .inl ⟨rfl, rfl, rfl⟩⟩

theorem refput_m (B : Nat) (a : Option Addr) (n c : Nat) (xs : List Int) (wd : Nat) (v : Int) (w : World) (m : Nat) (hm : m = n + wd) (h : Own B w a n c xs) (hB : B ≤ w.heap.size) (hw : 1 ≤ wd ∧ wd ≤ 4) (h0 : 0 ≤ v ∧ v ≤ 4294967296) (hn : n ≤ 100000) :
    Calls Try.prog 21 #[.slice a n c, .int .i64 (wd : Int), .int .i64 v] w fun e w' => ∃ a' c', e = .returned (.slice a' m c') ∧ Hid (Own B w' a' m c' (xs ++ digits wd v)) ∧ Below B w w' := by
  subst hm
  exact refput_any B a n c xs wd v w (.inl h) hB hw h0.1 h0.2 (by omega)

theorem dirs_take (X : Nat → Int) (k : Nat) (hk : k < 8) : fitB 2 ((dirs X).take (k + 1)) = (fitB 2 ((dirs X).take k) && fitB 2 [X (3 + k)]) := by
  rcases eight hk with rfl | rfl | rfl | rfl | rfl | rfl | rfl | rfl <;> simp [dirs, fitB, Bool.and_assoc]

theorem nums_take (X : Nat → Int) (k : Nat) (hk : k < 8) : numsB 2 ((dirs X).take (k + 1)) = numsB 2 ((dirs X).take k) ++ digits 2 (X (3 + k)) := by
  rw [numsB_succ 2 (dirs X) k (by simp [dirs]; omega)]
  rcases eight hk with rfl | rfl | rfl | rfl | rfl | rfl | rfl | rfl <;> rfl

theorem ino_bytes (X : Nat → Int) : [] ++ digits 1 (X 0) ++ digits 1 0 ++ digits 2 (X 1) ++ digits 4 (X 2) ++ numsB 2 ((dirs X).take 8) ++ digits 2 (X 11) ++ digits 2 (X 12) ++ digits 4 0 = layB 32 (inoL X) := by
  have e : layB 32 (inoL X) = inoL X ++ digits 4 0 := by unfold layB; rw [inoL_length]; rfl
  have e8 : (dirs X).take 8 = dirs X := rfl
  rw [e, e8]
  simp [inoL, numsB]

theorem inoF_split (X : Nat → Int) : inoF X = ((fitB 2 [X 1] && (fitB 4 [X 2] && (fitB 2 [X 11] && fitB 2 [X 12]))) && fitB 2 ((dirs X).take 8)) := by
  have e8 : (dirs X).take 8 = dirs X := rfl
  rw [e8]
  unfold inoF
  have e : fitB 2 [X 1, X 11, X 12] = (fitB 2 [X 1] && (fitB 2 [X 11] && fitB 2 [X 12])) := by simp [fitB]
  rw [e]
  generalize fitB 2 [X 1] = p
  generalize fitB 4 [X 2] = q
  generalize fitB 2 [X 11] = r
  generalize fitB 2 [X 12] = t
  generalize fitB 2 (dirs X) = y
  cases p <;> cases q <;> cases r <;> cases t <;> cases y <;> rfl

set_option maxHeartbeats 2000000 in
theorem refInode_low (X : Nat → Int) (w : World) (h : X 0 < 0) :
    Calls Try.prog 6 #[Iv X] w fun e w' => e = .returned (.tuple #[.slice none 0 0, .int .i64 4]) ∧ Below w.heap.size w w' := by
  have HK := hide (Bx.start w (Ic X) 24)
  have d1 : decide (X 0 < 0) = true := by simpa using h
  clear h
  go_enter Try.func6, Try.ntmps6
  go_wp2_with fail
  go_ret2
  exact ⟨rfl, HK.out.2.1⟩

set_option maxHeartbeats 2000000 in
theorem refInode_high (X : Nat → Int) (w : World) (h : 2 < X 0) :
    Calls Try.prog 6 #[Iv X] w fun e w' => e = .returned (.tuple #[.slice none 0 0, .int .i64 4]) ∧ Below w.heap.size w w' := by
  have HK := hide (Bx.start w (Ic X) 24)
  have d1 : decide (X 0 < 0) = false := by simp; omega
  have d2 : decide (X 0 > 2) = true := by simpa using h
  clear h
  go_enter Try.func6, Try.ntmps6
  go_wp2_with fail
  go_ret2
  exact ⟨rfl, HK.out.2.1⟩

set_option maxHeartbeats 2000000 in
theorem refInode_free (X : Nat → Int) (w : World) (h0 : X 0 = 0) (hs : inoSame X zeroX = false) :
    Calls Try.prog 6 #[Iv X] w fun e w' => e = .returned (.tuple #[.slice none 0 0, .int .i64 4]) ∧ Below w.heap.size w w' := by
  have HK := hide (Bx.start w (Ic X) 24)
  have hq : ∀ u : World, (binOp .neq 24 (Iv X) (.agg Iz)).run Try.prog u = .ok (.bool true) u := fun u => by
    have := neq_inode X zeroX u
    rw [hs] at this
    exact this
  have d1 : decide (X 0 < 0) = false := by simp; omega
  have d2 : decide (X 0 > 2) = false := by simp; omega
  have d3 : (X 0 == 0) = true := by simpa using h0
  clear h0 hs
  go_enter Try.func6, Try.ntmps6
  go_wp2_with fail
  go_ret2
  exact ⟨rfl, HK.out.2.1⟩

theorem refInode_bad (X : Nat → Int) (w : World) (h : inoBad X = true) :
    Calls Try.prog 6 #[Iv X] w fun e w' => e = .returned (.tuple #[.slice none 0 0, .int .i64 4]) ∧ Below w.heap.size w w' := by
  unfold inoBad at h
  by_cases h1 : X 0 < 0
  · exact refInode_low X w h1
  · by_cases h2 : 2 < X 0
    · exact refInode_high X w h2
    · have hk : kindB (X 0) = true := by
        have : X 0 = 0 ∨ X 0 = 1 ∨ X 0 = 2 := by omega
        rcases this with e | e | e <;> rw [e] <;> rfl
      rw [hk] at h
      simp at h
      exact refInode_free X w h.1 h.2

set_option maxHeartbeats 8000000 in
theorem refInode_value (X : Nat → Int) (w : World) (h : inoBad X = false) (hf : inoF X = false) :
    Calls Try.prog 6 #[Iv X] w fun e w' => e = .returned (.tuple #[.slice none 0 0, .int .i64 3]) ∧ Below w.heap.size w w' := by
  have HK := hide (Bx.start w (Ic X) 24)
  have hf' := hf
  rw [inoF_split] at hf'
  obtain ⟨b0, hb0⟩ : ∃ b, (fitB 2 [X 1] && (fitB 4 [X 2] && (fitB 2 [X 11] && fitB 2 [X 12]))) = b := ⟨_, rfl⟩
  have HJ : Hid (∀ k, k < 8 → ∀ r, r = (b0 && fitB 2 ((dirs X).take k)) → (r && fitB 2 [X (3 + k)]) = (b0 && fitB 2 ((dirs X).take (k + 1)))) := by
    intro k hk r hr
    rw [dirs_take X k hk, hr, Bool.and_assoc]
  rw [hb0] at hf'
  have HF := hide hf'
  obtain ⟨r1, er1⟩ : ∃ r, fitB 2 [X 1] = r := ⟨_, rfl⟩
  obtain ⟨r2, er2⟩ : ∃ r, fitB 4 [X 2] = r := ⟨_, rfl⟩
  obtain ⟨r3, er3⟩ : ∃ r, fitB 2 [X 11] = r := ⟨_, rfl⟩
  obtain ⟨r4, er4⟩ : ∃ r, fitB 2 [X 12] = r := ⟨_, rfl⟩
  have F1 : Hid (∀ u, Calls Try.prog 20 #[.int .i64 (X 1), .int .i64 2] u fun e w' => e = .returned (.bool r1) ∧ u = w') := fun u => by have := fits_any (X 1) 2 u (by omega); rwa [er1] at this
  have F2 : Hid (∀ u, Calls Try.prog 20 #[.int .i64 (X 2), .int .i64 4] u fun e w' => e = .returned (.bool r2) ∧ u = w') := fun u => by have := fits_any (X 2) 4 u (by omega); rwa [er2] at this
  have F3 : Hid (∀ u, Calls Try.prog 20 #[.int .i64 (X 11), .int .i64 2] u fun e w' => e = .returned (.bool r3) ∧ u = w') := fun u => by have := fits_any (X 11) 2 u (by omega); rwa [er3] at this
  have F4 : Hid (∀ u, Calls Try.prog 20 #[.int .i64 (X 12), .int .i64 2] u fun e w' => e = .returned (.bool r4) ∧ u = w') := fun u => by have := fits_any (X 12) 2 u (by omega); rwa [er4] at this
  rw [er1, er2, er3, er4] at hb0
  have HB0 : Hid (b0 = (r1 && (r2 && (r3 && r4)))) := hb0.symm
  have FD : Hid (∀ z u, Calls Try.prog 20 #[.int .i64 z, .int .i64 2] u fun e w' => e = .returned (.bool (fitB 2 [z])) ∧ u = w') := fun z u => fits_any z 2 u (by omega)
  have hk : 0 ≤ X 0 ∧ X 0 ≤ 2 ∧ ((X 0 == 0) = false ∨ ((X 0 == 0) = true ∧ inoSame X zeroX = true)) := by
    unfold inoBad at h
    simp only [Bool.or_eq_false_iff, Bool.not_eq_false', Bool.and_eq_false_iff] at h
    have h1 := h.1
    simp [kindB] at h1
    refine ⟨by omega, by omega, ?_⟩
    cases hx : X 0 == 0
    · exact .inl rfl
    · rcases h.2 with h2 | h2
      · rw [hx] at h2; cases h2
      · exact .inr ⟨rfl, h2⟩
  obtain ⟨k1, k2, k3⟩ := hk
  have d1 : decide (X 0 < 0) = false := by simp; omega
  have d2 : decide (X 0 > 2) = false := by simp; omega
  have HQ : Hid ((X 0 == 0) = false ∨ ((X 0 == 0) = true ∧ ∀ u : World, (binOp .neq 24 (Iv X) (.agg Iz)).run Try.prog u = .ok (.bool false) u)) := by
    rcases k3 with k3 | ⟨k3, k4⟩
    · exact .inl k3
    · refine .inr ⟨k3, fun u => ?_⟩
      have := neq_inode X zeroX u
      rw [k4] at this
      exact this
  have KP := hide (And.intro k1 k2)
  clear h hf hf' hb0 er1 er2 er3 er4 k1 k2 k3
  go_enter Try.func6, Try.ntmps6
  go_upto_region 1 with fail
  go_cut [25] (fun c wx => c = .bool false ∧ Hid (Bx w (Ic X) wx))
  case first =>
    rcases HQ.out with q | ⟨q1, q2⟩
    · clear HQ
      go_wp2_with fail
      go_meet
      exact ⟨rfl, HK⟩
    · clear HQ
      go_wp2_with fail
      go_meet
      exact ⟨rfl, HK⟩
  case rest =>
    obtain ⟨rfl, hB⟩ := hcut
    clear HK HQ d1 d2
    have f1 := hB.out.1 1 _ rfl
    have f2 := hB.out.1 2 _ rfl
    have f11 := hB.out.1 11 _ rfl
    have f12 := hB.out.1 12 _ rfl
    go_upto_region 3 with fail
    go_cut [4] (fun c wx => c = .bool b0 ∧ Hid (Bx w (Ic X) wx))
    case first =>
      clear HJ HF FD KP
      cases r1
      · go_wp2_with fail
        go_at_call 20
        refine (unhide F1 _).mono ?_
        rintro e w' ⟨rfl, rfl⟩
        clear F1
        go_wp2_with fail
        go_meet
        exact ⟨by rw [HB0.out]; rfl, hB⟩
      · go_wp2_with fail
        go_at_call 20
        refine (unhide F1 _).mono ?_
        rintro e w' ⟨rfl, rfl⟩
        clear F1
        cases r2
        · go_wp2_with fail
          go_at_call 20
          refine (unhide F2 _).mono ?_
          rintro e w' ⟨rfl, rfl⟩
          clear F2
          go_wp2_with fail
          go_meet
          exact ⟨by rw [HB0.out]; rfl, hB⟩
        · go_wp2_with fail
          go_at_call 20
          refine (unhide F2 _).mono ?_
          rintro e w' ⟨rfl, rfl⟩
          clear F2
          cases r3
          · go_wp2_with fail
            go_at_call 20
            refine (unhide F3 _).mono ?_
            rintro e w' ⟨rfl, rfl⟩
            clear F3
            go_wp2_with fail
            go_meet
            exact ⟨by rw [HB0.out]; rfl, hB⟩
          · go_wp2_with fail
            go_at_call 20
            refine (unhide F3 _).mono ?_
            rintro e w' ⟨rfl, rfl⟩
            clear F3
            cases r4
            · go_wp2_with fail
              go_at_call 20
              refine (unhide F4 _).mono ?_
              rintro e w' ⟨rfl, rfl⟩
              clear F4
              go_wp2_with fail
              go_meet
              exact ⟨by rw [HB0.out]; rfl, hB⟩
            · go_wp2_with fail
              go_at_call 20
              refine (unhide F4 _).mono ?_
              rintro e w' ⟨rfl, rfl⟩
              clear F4
              go_wp2_with fail
              go_meet
              exact ⟨by rw [HB0.out]; rfl, hB⟩
    case rest =>
      obtain ⟨rfl, hC⟩ := hcut
      clear hB f1 f2 f11 f12 F1 F2 F3 F4 HB0
      have f0 := hC.out.1 0 _ rfl
      go_wp2_with fail
      go_at_call 21
      refine (refput_m (w.heap.size + 1) _ 0 _ [] 1 (X 0) _ 1 rfl (Own.none _ _) hC.out.2.2 ⟨by omega, by omega⟩ (by have := KP.out; omega) (by omega)).mono ?_
      rintro e w1 ⟨a1, c1, rfl, hO1, hb⟩
      replace hC := hide (hC.out.low hb)
      clear f0 hb
      go_wp2_with fail
      go_at_call 21
      refine (refput_m (w.heap.size + 1) _ 1 _ _ 1 0 _ 2 rfl hO1.out hC.out.2.2 ⟨by omega, by omega⟩ (by omega) (by omega)).mono ?_
      rintro e w2 ⟨a2, c2, rfl, hO2, hb⟩
      replace hC := hide (hC.out.low hb)
      clear hb hO1
      go_wp2_with fail
      go_loop [4, 6] (fun o i => ∃ (k : Nat) (r : Bool), k ≤ 8 ∧ i = .int .i64 (k : Int) ∧ o = .bool r ∧ Hid (r = (b0 && fitB 2 ((dirs X).take k)))) (fun _ i => 8 - (intOf i).toNat)
      case atStart => exact ⟨0, b0, by omega, rfl, rfl, by show b0 = _; simp [fitB]⟩
      case round =>
        obtain ⟨k, r, hk, rfl, rfl, hr⟩ := hrel
        by_cases hlt : k < 8
        · have HR := hide (HJ.out k hlt r hr.out)
          clear hr
          rcases eight hlt with rfl | rfl | rfl | rfl | rfl | rfl | rfl | rfl
          all_goals
            cases r
            · go_wp2_with fail
              exact ⟨⟨_, _, by decide, rfl, rfl, HR⟩, by simp [intOf]⟩
            · have fd := hC.out.1 3 _ rfl
              have fd4 := hC.out.1 4 _ rfl
              have fd5 := hC.out.1 5 _ rfl
              have fd6 := hC.out.1 6 _ rfl
              have fd7 := hC.out.1 7 _ rfl
              have fd8 := hC.out.1 8 _ rfl
              have fd9 := hC.out.1 9 _ rfl
              have fd10 := hC.out.1 10 _ rfl
              go_wp2_with fail
              go_at_call 20
              refine (unhide FD _ _).mono ?_
              rintro e w' ⟨rfl, rfl⟩
              go_wp2_with fail
              exact ⟨⟨_, _, by decide, rfl, rfl, HR⟩, by simp [intOf]⟩
        · obtain rfl : k = 8 := by omega
          obtain rfl : r = false := by rw [hr.out]; exact HF.out
          clear hr HJ FD
          go_wp2_with fail
          go_ret2
          exact ⟨rfl, hC.out.2.1⟩

theorem fit_bd {wd : Nat} {ns : List Int} (h : fitB wd ns = true) (hw : wd ≤ 4) (v : Int) (hv : v ∈ ns) : 0 ≤ v ∧ v ≤ 4294967296 := by
  have := fitB_iff.1 h v hv
  have h1 : (256 : Int) ^ wd ≤ 4294967296 := by
    have : wd = 0 ∨ wd = 1 ∨ wd = 2 ∨ wd = 3 ∨ wd = 4 := by omega
    rcases this with rfl | rfl | rfl | rfl | rfl <;> decide
  omega

set_option maxHeartbeats 8000000 in
theorem refInode_good (X : Nat → Int) (w : World) (h : inoBad X = false) (hf : inoF X = true) :
    Calls Try.prog 6 #[Iv X] w fun e w' => ∃ a c, e = .returned (.tuple #[.slice a 32 c, .int .i64 0]) ∧ Hid (Has w' a 32 (layB 32 (inoL X))) ∧ Below w.heap.size w w' := by
  have HV : Hid ((0 ≤ X 1 ∧ X 1 ≤ 4294967296) ∧ (0 ≤ X 2 ∧ X 2 ≤ 4294967296) ∧ (0 ≤ X 11 ∧ X 11 ≤ 4294967296) ∧ (0 ≤ X 12 ∧ X 12 ≤ 4294967296) ∧ ∀ k, k < 8 → 0 ≤ X (3 + k) ∧ X (3 + k) ≤ 4294967296) := by
    have h1 := hf
    unfold inoF at h1
    simp only [Bool.and_eq_true] at h1
    obtain ⟨⟨h4, h2⟩, h8⟩ := h1
    refine ⟨fit_bd h2 (by omega) _ (by simp), fit_bd h4 (by omega) _ (by simp), fit_bd h2 (by omega) _ (by simp), fit_bd h2 (by omega) _ (by simp), fun k hk => fit_bd h8 (by omega) _ ?_⟩
    rcases eight hk with rfl | rfl | rfl | rfl | rfl | rfl | rfl | rfl <;> simp [dirs]
  have HM := hide (fun k hk => nums_take X k hk)
  have HL := hide (ino_bytes X)
  have HK := hide (Bx.start w (Ic X) 24)
  have hf' := hf
  rw [inoF_split] at hf'
  obtain ⟨b0, hb0⟩ : ∃ b, (fitB 2 [X 1] && (fitB 4 [X 2] && (fitB 2 [X 11] && fitB 2 [X 12]))) = b := ⟨_, rfl⟩
  have HJ : Hid (∀ k, k < 8 → ∀ r, r = (b0 && fitB 2 ((dirs X).take k)) → (r && fitB 2 [X (3 + k)]) = (b0 && fitB 2 ((dirs X).take (k + 1)))) := by
    intro k hk r hr
    rw [dirs_take X k hk, hr, Bool.and_assoc]
  rw [hb0] at hf'
  have HF := hide hf'
  obtain ⟨r1, er1⟩ : ∃ r, fitB 2 [X 1] = r := ⟨_, rfl⟩
  obtain ⟨r2, er2⟩ : ∃ r, fitB 4 [X 2] = r := ⟨_, rfl⟩
  obtain ⟨r3, er3⟩ : ∃ r, fitB 2 [X 11] = r := ⟨_, rfl⟩
  obtain ⟨r4, er4⟩ : ∃ r, fitB 2 [X 12] = r := ⟨_, rfl⟩
  have F1 : Hid (∀ u, Calls Try.prog 20 #[.int .i64 (X 1), .int .i64 2] u fun e w' => e = .returned (.bool r1) ∧ u = w') := fun u => by have := fits_any (X 1) 2 u (by omega); rwa [er1] at this
  have F2 : Hid (∀ u, Calls Try.prog 20 #[.int .i64 (X 2), .int .i64 4] u fun e w' => e = .returned (.bool r2) ∧ u = w') := fun u => by have := fits_any (X 2) 4 u (by omega); rwa [er2] at this
  have F3 : Hid (∀ u, Calls Try.prog 20 #[.int .i64 (X 11), .int .i64 2] u fun e w' => e = .returned (.bool r3) ∧ u = w') := fun u => by have := fits_any (X 11) 2 u (by omega); rwa [er3] at this
  have F4 : Hid (∀ u, Calls Try.prog 20 #[.int .i64 (X 12), .int .i64 2] u fun e w' => e = .returned (.bool r4) ∧ u = w') := fun u => by have := fits_any (X 12) 2 u (by omega); rwa [er4] at this
  rw [er1, er2, er3, er4] at hb0
  have HB0 : Hid (b0 = (r1 && (r2 && (r3 && r4)))) := hb0.symm
  have FD : Hid (∀ z u, Calls Try.prog 20 #[.int .i64 z, .int .i64 2] u fun e w' => e = .returned (.bool (fitB 2 [z])) ∧ u = w') := fun z u => fits_any z 2 u (by omega)
  have hk : 0 ≤ X 0 ∧ X 0 ≤ 2 ∧ ((X 0 == 0) = false ∨ ((X 0 == 0) = true ∧ inoSame X zeroX = true)) := by
    unfold inoBad at h
    simp only [Bool.or_eq_false_iff, Bool.not_eq_false', Bool.and_eq_false_iff] at h
    have h1 := h.1
    simp [kindB] at h1
    refine ⟨by omega, by omega, ?_⟩
    cases hx : X 0 == 0
    · exact .inl rfl
    · rcases h.2 with h2 | h2
      · rw [hx] at h2; cases h2
      · exact .inr ⟨rfl, h2⟩
  obtain ⟨k1, k2, k3⟩ := hk
  have d1 : decide (X 0 < 0) = false := by simp; omega
  have d2 : decide (X 0 > 2) = false := by simp; omega
  have HQ : Hid ((X 0 == 0) = false ∨ ((X 0 == 0) = true ∧ ∀ u : World, (binOp .neq 24 (Iv X) (.agg Iz)).run Try.prog u = .ok (.bool false) u)) := by
    rcases k3 with k3 | ⟨k3, k4⟩
    · exact .inl k3
    · refine .inr ⟨k3, fun u => ?_⟩
      have := neq_inode X zeroX u
      rw [k4] at this
      exact this
  have KP := hide (And.intro k1 k2)
  clear h hf hf' hb0 er1 er2 er3 er4 k1 k2 k3
  go_enter Try.func6, Try.ntmps6
  go_upto_region 1 with fail
  go_cut [25] (fun c wx => c = .bool false ∧ Hid (Bx w (Ic X) wx))
  case first =>
    rcases HQ.out with q | ⟨q1, q2⟩
    · clear HQ
      go_wp2_with fail
      go_meet
      exact ⟨rfl, HK⟩
    · clear HQ
      go_wp2_with fail
      go_meet
      exact ⟨rfl, HK⟩
  case rest =>
    obtain ⟨rfl, hB⟩ := hcut
    clear HK HQ d1 d2
    have f1 := hB.out.1 1 _ rfl
    have f2 := hB.out.1 2 _ rfl
    have f11 := hB.out.1 11 _ rfl
    have f12 := hB.out.1 12 _ rfl
    go_upto_region 3 with fail
    go_cut [4] (fun c wx => c = .bool b0 ∧ Hid (Bx w (Ic X) wx))
    case first =>
      clear HJ HF FD KP
      cases r1
      · go_wp2_with fail
        go_at_call 20
        refine (unhide F1 _).mono ?_
        rintro e w' ⟨rfl, rfl⟩
        clear F1
        go_wp2_with fail
        go_meet
        exact ⟨by rw [HB0.out]; rfl, hB⟩
      · go_wp2_with fail
        go_at_call 20
        refine (unhide F1 _).mono ?_
        rintro e w' ⟨rfl, rfl⟩
        clear F1
        cases r2
        · go_wp2_with fail
          go_at_call 20
          refine (unhide F2 _).mono ?_
          rintro e w' ⟨rfl, rfl⟩
          clear F2
          go_wp2_with fail
          go_meet
          exact ⟨by rw [HB0.out]; rfl, hB⟩
        · go_wp2_with fail
          go_at_call 20
          refine (unhide F2 _).mono ?_
          rintro e w' ⟨rfl, rfl⟩
          clear F2
          cases r3
          · go_wp2_with fail
            go_at_call 20
            refine (unhide F3 _).mono ?_
            rintro e w' ⟨rfl, rfl⟩
            clear F3
            go_wp2_with fail
            go_meet
            exact ⟨by rw [HB0.out]; rfl, hB⟩
          · go_wp2_with fail
            go_at_call 20
            refine (unhide F3 _).mono ?_
            rintro e w' ⟨rfl, rfl⟩
            clear F3
            cases r4
            · go_wp2_with fail
              go_at_call 20
              refine (unhide F4 _).mono ?_
              rintro e w' ⟨rfl, rfl⟩
              clear F4
              go_wp2_with fail
              go_meet
              exact ⟨by rw [HB0.out]; rfl, hB⟩
            · go_wp2_with fail
              go_at_call 20
              refine (unhide F4 _).mono ?_
              rintro e w' ⟨rfl, rfl⟩
              clear F4
              go_wp2_with fail
              go_meet
              exact ⟨by rw [HB0.out]; rfl, hB⟩
    case rest =>
      obtain ⟨rfl, hC⟩ := hcut
      clear hB f1 f2 f11 f12 F1 F2 F3 F4 HB0
      have f0 := hC.out.1 0 _ rfl
      go_wp2_with fail
      go_at_call 21
      refine (refput_m (w.heap.size + 1) _ 0 _ [] 1 (X 0) _ 1 rfl (Own.none _ _) hC.out.2.2 ⟨by omega, by omega⟩ (by have := KP.out; omega) (by omega)).mono ?_
      rintro e w1 ⟨a1, c1, rfl, hO1, hb⟩
      replace hC := hide (hC.out.low hb)
      clear f0 hb
      go_wp2_with fail
      go_at_call 21
      refine (refput_m (w.heap.size + 1) _ 1 _ _ 1 0 _ 2 rfl hO1.out hC.out.2.2 ⟨by omega, by omega⟩ (by omega) (by omega)).mono ?_
      rintro e w2 ⟨a2, c2, rfl, hO2, hb⟩
      replace hC := hide (hC.out.low hb)
      clear hb hO1
      go_wp2_with fail
      go_loop [4, 6] (fun o i => ∃ (k : Nat) (r : Bool), k ≤ 8 ∧ i = .int .i64 (k : Int) ∧ o = .bool r ∧ Hid (r = (b0 && fitB 2 ((dirs X).take k)))) (fun _ i => 8 - (intOf i).toNat)
      case atStart => exact ⟨0, b0, by omega, rfl, rfl, by show b0 = _; simp [fitB]⟩
      case round =>
        obtain ⟨k, r, hk, rfl, rfl, hr⟩ := hrel
        by_cases hlt : k < 8
        · have HR := hide (HJ.out k hlt r hr.out)
          clear hr
          rcases eight hlt with rfl | rfl | rfl | rfl | rfl | rfl | rfl | rfl
          all_goals
            cases r
            · go_wp2_with fail
              exact ⟨⟨_, _, by decide, rfl, rfl, HR⟩, by simp [intOf]⟩
            · have fd := hC.out.1 3 _ rfl
              have fd4 := hC.out.1 4 _ rfl
              have fd5 := hC.out.1 5 _ rfl
              have fd6 := hC.out.1 6 _ rfl
              have fd7 := hC.out.1 7 _ rfl
              have fd8 := hC.out.1 8 _ rfl
              have fd9 := hC.out.1 9 _ rfl
              have fd10 := hC.out.1 10 _ rfl
              go_wp2_with fail
              go_at_call 20
              refine (unhide FD _ _).mono ?_
              rintro e w' ⟨rfl, rfl⟩
              go_wp2_with fail
              exact ⟨⟨_, _, by decide, rfl, rfl, HR⟩, by simp [intOf]⟩
        · obtain rfl : k = 8 := by omega
          obtain rfl : r = true := by rw [hr.out]; exact HF.out
          clear hr HJ FD
          have f1 := hC.out.1 1 _ rfl
          go_wp2_with fail
          go_at_call 21
          refine (refput_m (w.heap.size + 1) _ 2 _ _ 2 (X 1) _ 4 rfl hO2.out hC.out.2.2 ⟨by omega, by omega⟩ HV.out.1 (by omega)).mono ?_
          rintro e w3 ⟨a3, c3, rfl, hO3, hb⟩
          replace hC := hide (hC.out.low hb)
          clear hb hO2 f1
          have f2 := hC.out.1 2 _ rfl
          go_wp2_with fail
          go_at_call 21
          refine (refput_m (w.heap.size + 1) _ 4 _ _ 4 (X 2) _ 8 rfl hO3.out hC.out.2.2 ⟨by omega, by omega⟩ HV.out.2.1 (by omega)).mono ?_
          rintro e w4 ⟨a4, c4, rfl, hO4, hb⟩
          replace hC := hide (hC.out.low hb)
          clear hb hO3 f2
          go_wp2_with fail
          go_loopw [5, 7] (fun s i wr => ∃ (k m : Nat) (a : Option Addr) (c : Nat), k ≤ 8 ∧ i = .int .i64 (k : Int) ∧ s = .slice a m c ∧ Hid (m = 8 + 2 * k ∧ Own (w.heap.size + 1) wr a m c ([] ++ digits 1 (X 0) ++ digits 1 0 ++ digits 2 (X 1) ++ digits 4 (X 2) ++ numsB 2 ((dirs X).take k))) ∧ Hid (Bx w (Ic X) wr)) (fun _ i _ => 8 - (intOf i).toNat)
          case atStart => exact ⟨0, 8, a4, c4, by omega, rfl, rfl, ⟨rfl, by simpa [numsB] using hO4.out⟩, hC⟩
          case round =>
            obtain ⟨k, m, a, c, hk, rfl, rfl, hO, hD⟩ := hrel
            clear hC hO4
            by_cases hlt : k < 8
            · have hv := HV.out.2.2.2.2 k hlt
              have hm := hO.out.1
              have KQ : Hid (∀ u, Bx w (Ic X) u → Own (w.heap.size + 1) u a m c ([] ++ digits 1 (X 0) ++ digits 1 0 ++ digits 2 (X 1) ++ digits 4 (X 2) ++ numsB 2 ((dirs X).take k)) → Calls Try.prog 21 #[.slice a m c, .int .i64 2, .int .i64 (X (3 + k))] u fun e w' => ∃ a' c', e = .returned (.slice a' (m + 2) c') ∧ Hid (m + 2 = 8 + 2 * (k + 1) ∧ Own (w.heap.size + 1) w' a' (m + 2) c' ([] ++ digits 1 (X 0) ++ digits 1 0 ++ digits 2 (X 1) ++ digits 4 (X 2) ++ numsB 2 ((dirs X).take (k + 1)))) ∧ Hid (Bx w (Ic X) w')) := by
                intro u hBu hOu
                refine (refput_m (w.heap.size + 1) _ m _ _ 2 (X (3 + k)) _ (m + 2) rfl hOu hBu.2.2 ⟨by omega, by omega⟩ hv (by omega)).mono ?_
                rintro e w' ⟨a', c', rfl, hO', hb⟩
                refine ⟨a', c', rfl, ⟨by omega, ?_⟩, hBu.low hb⟩
                have := hO'.out
                rwa [List.append_assoc, ← HM.out k hlt] at this
              clear hm hv
              rcases eight hlt with rfl | rfl | rfl | rfl | rfl | rfl | rfl | rfl
              all_goals
                have fd := hD.out.1 3 _ rfl
                have fd4 := hD.out.1 4 _ rfl
                have fd5 := hD.out.1 5 _ rfl
                have fd6 := hD.out.1 6 _ rfl
                have fd7 := hD.out.1 7 _ rfl
                have fd8 := hD.out.1 8 _ rfl
                have fd9 := hD.out.1 9 _ rfl
                have fd10 := hD.out.1 10 _ rfl
                go_wp2_with fail
                go_at_call 21
                refine (unhide KQ _ hD.out hO.out.2).mono ?_
                rintro e w5 ⟨a5, c5, rfl, hO5, hD5⟩
                clear fd fd4 fd5 fd6 fd7 fd8 fd9 fd10 KQ
                go_wp2_with fail
                exact ⟨⟨_, m + 2, a5, c5, by decide, rfl, rfl, hO5, hD5⟩, by simp [intOf]⟩
            · obtain rfl : k = 8 := by omega
              obtain rfl : m = 24 := hO.out.1
              have hO5 := hide hO.out.2
              have hC := hide hD.out
              clear hO hD
              have f11 := hC.out.1 11 _ rfl
              go_wp2_with fail
              go_at_call 21
              refine (refput_m (w.heap.size + 1) _ 24 _ _ 2 (X 11) _ 26 rfl hO5.out hC.out.2.2 ⟨by omega, by omega⟩ HV.out.2.2.1 (by omega)).mono ?_
              rintro e w6 ⟨a6, c6, rfl, hO6, hb⟩
              replace hC := hide (hC.out.low hb)
              clear hb hO5 f11
              have f12 := hC.out.1 12 _ rfl
              go_wp2_with fail
              go_at_call 21
              refine (refput_m (w.heap.size + 1) _ 26 _ _ 2 (X 12) _ 28 rfl hO6.out hC.out.2.2 ⟨by omega, by omega⟩ HV.out.2.2.2.1 (by omega)).mono ?_
              rintro e w7 ⟨a7, c7, rfl, hO7, hb⟩
              replace hC := hide (hC.out.low hb)
              clear hb hO6 f12
              go_wp2_with fail
              go_at_call 21
              refine (refput_m (w.heap.size + 1) _ 28 _ _ 4 0 _ 32 rfl hO7.out hC.out.2.2 ⟨by omega, by omega⟩ (by omega) (by omega)).mono ?_
              rintro e w8 ⟨a8, c8, rfl, hO8, hb⟩
              replace hC := hide (hC.out.low hb)
              have HR : Hid (Has w8 a8 32 (layB 32 (inoL X))) := by
                have := hO8.out.has
                rwa [HL.out] at this
              clear hb hO7 hO8
              go_wp2_with fail
              go_ret2
              exact ⟨a8, c8, rfl, HR, hC.out.2.1⟩

end Go.Proofs.Ytmdkcoenjadieaa
