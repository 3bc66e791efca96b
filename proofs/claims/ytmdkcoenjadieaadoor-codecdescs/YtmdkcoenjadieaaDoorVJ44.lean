/- Joined: CRRec, CRDesc. -/
import Derived.Test.YtmdkcoenjadieaaDoorVCRec2
import Derived.Test.YtmdkcoenjadieaaDoorVJ38
import Derived.Test.YtmdkcoenjadieaaDoorVJ21
import Derived.Test.YtmdkcoenjadieaaDoorVGAppS
import Derived.Test.YtmdkcoenjadieaaDoorVJ42
import Derived.Test.YtmdkcoenjadieaaDoorVCUnD
import Derived.Test.YtmdkcoenjadieaaDoorVJ8
import Derived.Test.YtmdkcoenjadieaaDoorVCRSup
/- Contracts of skerryref06.Record. -/
namespace Go.Proofs.YtmdkcoenjadieaaDoor
open Go.RowKit Go.Shelf
set_option linter.unusedVariables false
set_option maxRecDepth 100000

theorem Bx.low {w u u' : World} {cs : Array Value} (h : Bx w cs u) (hb : Below (w.heap.size + 1) u u') : Bx w cs u' :=
  ⟨fun k v hk => (hb.cell (p := ⟨w.heap.size, k, none⟩) (Nat.lt_succ_self _)).trans (h.1 k v hk), h.2.1.trans (hb.mono (Nat.le_succ _)), Nat.lt_of_lt_of_le h.2.2 hb.size⟩

theorem Own.none (B : Nat) (u : World) : Own B u none 0 0 [] := ⟨rfl, Nat.le_refl _, Nat.zero_le _, .inl ⟨rfl, rfl, rfl⟩⟩

theorem refput_m (B : Nat) (a : Option Addr) (n c : Nat) (xs : List Int) (wd : Nat) (v : Int) (w : World) (m : Nat) (hm : m = n + wd) (h : Own B w a n c xs) (hB : B ≤ w.heap.size) (hw : 1 ≤ wd ∧ wd ≤ 4) (h0 : 0 ≤ v ∧ v ≤ 4294967296) (hn : n ≤ 100000) :
    Calls Tryd.prog 40 #[.slice a n c, .int .i64 (wd : Int), .int .i64 v] w fun e w' => ∃ a' c', e = .returned (.slice a' m c') ∧ Hid (Own B w' a' m c' (xs ++ digits wd v)) ∧ Below B w w' := by
  subst hm
  exact refput_any B a n c xs wd v w (.inl h) hB hw h0.1 h0.2 (by omega)

theorem fit_bd {wd : Nat} {ns : List Int} (h : fitB wd ns = true) (hw : wd ≤ 4) (v : Int) (hv : v ∈ ns) : 0 ≤ v ∧ v ≤ 4294967296 := by
  have := fitB_iff.1 h v hv
  have h1 : (256 : Int) ^ wd ≤ 4294967296 := by
    have : wd = 0 ∨ wd = 1 ∨ wd = 2 ∨ wd = 3 ∨ wd = 4 := by omega
    rcases this with rfl | rfl | rfl | rfl | rfl <;> decide
  omega

theorem seal_take (Z : Nat → Int) (k : Nat) (hk : k < 4) : fitB 2 ((sealL Z).take (k + 1)) = (fitB 2 ((sealL Z).take k) && fitB 2 [Z (2 + k)]) := by
  rcases four' hk with rfl | rfl | rfl | rfl <;> simp [sealL, fitB, Bool.and_assoc]

theorem snums_take (Z : Nat → Int) (k : Nat) (hk : k < 4) : numsB 2 ((sealL Z).take (k + 1)) = numsB 2 ((sealL Z).take k) ++ digits 2 (Z (2 + k)) := by
  rw [numsB_succ 2 (sealL Z) k (by simp [sealL]; omega)]
  rcases four' hk with rfl | rfl | rfl | rfl <;> rfl

theorem rec_bytes (Z : Nat → Int) (s : ByteArray) : [] ++ digits 4 (Z 0) ++ digits 4 (Z 1) ++ digits 4 (Z 6) ++ digits 4 (Z 7) ++ numsB 2 ((sealL Z).take 4) ++ byts s = recL Z s := by
  have e8 : (sealL Z).take 4 = sealL Z := rfl
  rw [e8]
  simp [recL, numsB]

theorem recF_split (Z : Nat → Int) : recF Z = ((fitB 4 [Z 0] && (fitB 4 [Z 1] && (fitB 4 [Z 6] && fitB 4 [Z 7]))) && fitB 2 ((sealL Z).take 4)) := by
  have e8 : (sealL Z).take 4 = sealL Z := rfl
  rw [e8]
  unfold recF
  have e : fitB 4 [Z 0, Z 1, Z 6, Z 7] = (fitB 4 [Z 0] && (fitB 4 [Z 1] && (fitB 4 [Z 6] && fitB 4 [Z 7]))) := by simp [fitB]
  rw [e]

theorem wpList_append_text {w w' : World} {ops : Array Oper} {rest : List Oper} {o : Oper} {a : Act} {Q : Exit → Act → World → Prop} (t u : TypeId) (hgd : o.guard = none) (d s : Operand)
    (ho : o.op = .call { callee := .builtin .append, args := #[d, s], argTypes := #[t, u] }) (v x v' : Value) (hd : a.eval d = v) (hs : a.eval s = x)
    (hrun : ∀ ty, (Builtin.append_ #[t, u] ty #[v, x]).run Tryd.prog w = .ok v' w')
    (h : wpList Tryd.prog ops Q rest (a.put o.dst v') w') : wpList Tryd.prog ops Q (o :: rest) a w := by
  refine wpList_plain hgd fun K hK => ?_
  have hr := hrun o.type
  unfold Oper.wp
  simp [execOp, ho, resolve, invoke, builtin, hd, hs, hr, Result.andThen]
  exact hK _ _ h

set_option maxHeartbeats 8000000 in
theorem refRecord_value (Z : Nat → Int) (s : ByteArray) (w : World) (hf : recF Z = false) :
    Calls Tryd.prog 24 #[Rv Z s] w fun e w' => e = .returned (.tuple #[.slice none 0 0, .int .i64 3]) ∧ Below w.heap.size w w' := by
  have HK := hide (Bx.start w (Rc Z s) 48)
  have hf' := hf
  rw [recF_split] at hf'
  obtain ⟨b0, hb0⟩ : ∃ b, (fitB 4 [Z 0] && (fitB 4 [Z 1] && (fitB 4 [Z 6] && fitB 4 [Z 7]))) = b := ⟨_, rfl⟩
  have HJ : Hid (∀ k, k < 4 → ∀ r, r = (b0 && fitB 2 ((sealL Z).take k)) → (r && fitB 2 [Z (2 + k)]) = (b0 && fitB 2 ((sealL Z).take (k + 1)))) := by
    intro k hk r hr
    rw [seal_take Z k hk, hr, Bool.and_assoc]
  rw [hb0] at hf'
  have HF := hide hf'
  obtain ⟨r1, er1⟩ : ∃ r, fitB 4 [Z 0] = r := ⟨_, rfl⟩
  obtain ⟨r2, er2⟩ : ∃ r, fitB 4 [Z 1] = r := ⟨_, rfl⟩
  obtain ⟨r3, er3⟩ : ∃ r, fitB 4 [Z 6] = r := ⟨_, rfl⟩
  obtain ⟨r4, er4⟩ : ∃ r, fitB 4 [Z 7] = r := ⟨_, rfl⟩
  have F1 : Hid (∀ u, Calls Tryd.prog 46 #[.int .i64 (Z 0), .int .i64 4] u fun e w' => e = .returned (.bool r1) ∧ u = w') := fun u => by have := fits_any (Z 0) 4 u (by omega); rwa [er1] at this
  have F2 : Hid (∀ u, Calls Tryd.prog 46 #[.int .i64 (Z 1), .int .i64 4] u fun e w' => e = .returned (.bool r2) ∧ u = w') := fun u => by have := fits_any (Z 1) 4 u (by omega); rwa [er2] at this
  have F3 : Hid (∀ u, Calls Tryd.prog 46 #[.int .i64 (Z 6), .int .i64 4] u fun e w' => e = .returned (.bool r3) ∧ u = w') := fun u => by have := fits_any (Z 6) 4 u (by omega); rwa [er3] at this
  have F4 : Hid (∀ u, Calls Tryd.prog 46 #[.int .i64 (Z 7), .int .i64 4] u fun e w' => e = .returned (.bool r4) ∧ u = w') := fun u => by have := fits_any (Z 7) 4 u (by omega); rwa [er4] at this
  rw [er1, er2, er3, er4] at hb0
  have HB0 : Hid (b0 = (r1 && (r2 && (r3 && r4)))) := hb0.symm
  have FD : Hid (∀ z u, Calls Tryd.prog 46 #[.int .i64 z, .int .i64 2] u fun e w' => e = .returned (.bool (fitB 2 [z])) ∧ u = w') := fun z u => fits_any z 2 u (by omega)
  clear hf hf' hb0 er1 er2 er3 er4
  go_enter Tryd.func24, Tryd.ntmps24
  go_upto_region 1 with fail
  change Code.wp _ _ _ _ (w.alloc (.cells (Rc Z s) 48))
  go_cut [4] (fun c wx => c = .bool b0 ∧ Hid (Bx w (Rc Z s) wx))
  case first =>
    have f0 := HK.out.1 0 _ rfl
    have f1 := HK.out.1 1 _ rfl
    have f6 := HK.out.1 6 _ rfl
    have f7 := HK.out.1 7 _ rfl
    clear HJ HF FD
    generalize w.alloc (.cells (Rc Z s) 48) = W at *
    cases r1
    · go_wp2_with fail
      go_at_call 46
      refine (unhide F1 _).mono ?_
      rintro e w' ⟨rfl, rfl⟩
      clear F1
      go_wp2_with fail
      go_meet
      exact ⟨by rw [HB0.out]; rfl, HK⟩
    · go_wp2_with fail
      go_at_call 46
      refine (unhide F1 _).mono ?_
      rintro e w' ⟨rfl, rfl⟩
      clear F1
      cases r2
      · go_wp2_with fail
        go_at_call 46
        refine (unhide F2 _).mono ?_
        rintro e w' ⟨rfl, rfl⟩
        clear F2
        go_wp2_with fail
        go_meet
        exact ⟨by rw [HB0.out]; rfl, HK⟩
      · go_wp2_with fail
        go_at_call 46
        refine (unhide F2 _).mono ?_
        rintro e w' ⟨rfl, rfl⟩
        clear F2
        cases r3
        · go_wp2_with fail
          go_at_call 46
          refine (unhide F3 _).mono ?_
          rintro e w' ⟨rfl, rfl⟩
          clear F3
          go_wp2_with fail
          go_meet
          exact ⟨by rw [HB0.out]; rfl, HK⟩
        · go_wp2_with fail
          go_at_call 46
          refine (unhide F3 _).mono ?_
          rintro e w' ⟨rfl, rfl⟩
          clear F3
          cases r4
          · go_wp2_with fail
            go_at_call 46
            refine (unhide F4 _).mono ?_
            rintro e w' ⟨rfl, rfl⟩
            clear F4
            go_wp2_with fail
            go_meet
            exact ⟨by rw [HB0.out]; rfl, HK⟩
          · go_wp2_with fail
            go_at_call 46
            refine (unhide F4 _).mono ?_
            rintro e w' ⟨rfl, rfl⟩
            clear F4
            go_wp2_with fail
            go_meet
            exact ⟨by rw [HB0.out]; rfl, HK⟩
  case rest =>
    obtain ⟨rfl, hC⟩ := hcut
    clear HK F1 F2 F3 F4 HB0
    go_wp2_with fail
    go_loop [4, 5] (fun o i => ∃ (k : Nat) (r : Bool), k ≤ 4 ∧ i = .int .i64 (k : Int) ∧ o = .bool r ∧ Hid (r = (b0 && fitB 2 ((sealL Z).take k)))) (fun _ i => 4 - (intOf i).toNat)
    case atStart => exact ⟨0, b0, by omega, rfl, rfl, by show b0 = _; simp [fitB]⟩
    case round =>
      obtain ⟨k, r, hk, rfl, rfl, hr⟩ := hrel
      by_cases hlt : k < 4
      · have HR := hide (HJ.out k hlt r hr.out)
        clear hr
        rcases four' hlt with rfl | rfl | rfl | rfl
        all_goals
          cases r
          · go_wp2_with fail
            exact ⟨⟨_, _, by decide, rfl, rfl, HR⟩, by simp [intOf]⟩
          · have fd2 := hC.out.1 2 _ rfl
            have fd3 := hC.out.1 3 _ rfl
            have fd4 := hC.out.1 4 _ rfl
            have fd5 := hC.out.1 5 _ rfl
            go_wp2_with fail
            go_at_call 46
            refine (unhide FD _ _).mono ?_
            rintro e w' ⟨rfl, rfl⟩
            go_wp2_with fail
            exact ⟨⟨_, _, by decide, rfl, rfl, HR⟩, by simp [intOf]⟩
      · obtain rfl : k = 4 := by omega
        obtain rfl : r = false := by rw [hr.out]; exact HF.out
        clear hr HJ FD
        go_wp2_with fail
        go_ret2
        exact ⟨rfl, hC.out.2.1⟩

set_option maxHeartbeats 8000000 in
theorem refRecord_large (Z : Nat → Int) (s : ByteArray) (w : World) (hf : recF Z = true) (hs : s.size ≤ 140737488351232) (h : 65511 < s.size) :
    Calls Tryd.prog 24 #[Rv Z s] w fun e w' => e = .returned (.tuple #[.slice none 0 0, .int .i64 5]) ∧ Below w.heap.size w w' := by
  have hd : decide ((s.size : Int) > 65511) = true := by simp; omega
  clear h
  have HK := hide (Bx.start w (Rc Z s) 48)
  have hf' := hf
  rw [recF_split] at hf'
  obtain ⟨b0, hb0⟩ : ∃ b, (fitB 4 [Z 0] && (fitB 4 [Z 1] && (fitB 4 [Z 6] && fitB 4 [Z 7]))) = b := ⟨_, rfl⟩
  have HJ : Hid (∀ k, k < 4 → ∀ r, r = (b0 && fitB 2 ((sealL Z).take k)) → (r && fitB 2 [Z (2 + k)]) = (b0 && fitB 2 ((sealL Z).take (k + 1)))) := by
    intro k hk r hr
    rw [seal_take Z k hk, hr, Bool.and_assoc]
  rw [hb0] at hf'
  have HF := hide hf'
  obtain ⟨r1, er1⟩ : ∃ r, fitB 4 [Z 0] = r := ⟨_, rfl⟩
  obtain ⟨r2, er2⟩ : ∃ r, fitB 4 [Z 1] = r := ⟨_, rfl⟩
  obtain ⟨r3, er3⟩ : ∃ r, fitB 4 [Z 6] = r := ⟨_, rfl⟩
  obtain ⟨r4, er4⟩ : ∃ r, fitB 4 [Z 7] = r := ⟨_, rfl⟩
  have F1 : Hid (∀ u, Calls Tryd.prog 46 #[.int .i64 (Z 0), .int .i64 4] u fun e w' => e = .returned (.bool r1) ∧ u = w') := fun u => by have := fits_any (Z 0) 4 u (by omega); rwa [er1] at this
  have F2 : Hid (∀ u, Calls Tryd.prog 46 #[.int .i64 (Z 1), .int .i64 4] u fun e w' => e = .returned (.bool r2) ∧ u = w') := fun u => by have := fits_any (Z 1) 4 u (by omega); rwa [er2] at this
  have F3 : Hid (∀ u, Calls Tryd.prog 46 #[.int .i64 (Z 6), .int .i64 4] u fun e w' => e = .returned (.bool r3) ∧ u = w') := fun u => by have := fits_any (Z 6) 4 u (by omega); rwa [er3] at this
  have F4 : Hid (∀ u, Calls Tryd.prog 46 #[.int .i64 (Z 7), .int .i64 4] u fun e w' => e = .returned (.bool r4) ∧ u = w') := fun u => by have := fits_any (Z 7) 4 u (by omega); rwa [er4] at this
  rw [er1, er2, er3, er4] at hb0
  have HB0 : Hid (b0 = (r1 && (r2 && (r3 && r4)))) := hb0.symm
  have FD : Hid (∀ z u, Calls Tryd.prog 46 #[.int .i64 z, .int .i64 2] u fun e w' => e = .returned (.bool (fitB 2 [z])) ∧ u = w') := fun z u => fits_any z 2 u (by omega)
  clear hf hf' hb0 er1 er2 er3 er4
  go_enter Tryd.func24, Tryd.ntmps24
  go_upto_region 1 with fail
  change Code.wp _ _ _ _ (w.alloc (.cells (Rc Z s) 48))
  go_cut [4] (fun c wx => c = .bool b0 ∧ Hid (Bx w (Rc Z s) wx))
  case first =>
    have f0 := HK.out.1 0 _ rfl
    have f1 := HK.out.1 1 _ rfl
    have f6 := HK.out.1 6 _ rfl
    have f7 := HK.out.1 7 _ rfl
    clear HJ HF FD
    generalize w.alloc (.cells (Rc Z s) 48) = W at *
    cases r1
    · go_wp2_with fail
      go_at_call 46
      refine (unhide F1 _).mono ?_
      rintro e w' ⟨rfl, rfl⟩
      clear F1
      go_wp2_with fail
      go_meet
      exact ⟨by rw [HB0.out]; rfl, HK⟩
    · go_wp2_with fail
      go_at_call 46
      refine (unhide F1 _).mono ?_
      rintro e w' ⟨rfl, rfl⟩
      clear F1
      cases r2
      · go_wp2_with fail
        go_at_call 46
        refine (unhide F2 _).mono ?_
        rintro e w' ⟨rfl, rfl⟩
        clear F2
        go_wp2_with fail
        go_meet
        exact ⟨by rw [HB0.out]; rfl, HK⟩
      · go_wp2_with fail
        go_at_call 46
        refine (unhide F2 _).mono ?_
        rintro e w' ⟨rfl, rfl⟩
        clear F2
        cases r3
        · go_wp2_with fail
          go_at_call 46
          refine (unhide F3 _).mono ?_
          rintro e w' ⟨rfl, rfl⟩
          clear F3
          go_wp2_with fail
          go_meet
          exact ⟨by rw [HB0.out]; rfl, HK⟩
        · go_wp2_with fail
          go_at_call 46
          refine (unhide F3 _).mono ?_
          rintro e w' ⟨rfl, rfl⟩
          clear F3
          cases r4
          · go_wp2_with fail
            go_at_call 46
            refine (unhide F4 _).mono ?_
            rintro e w' ⟨rfl, rfl⟩
            clear F4
            go_wp2_with fail
            go_meet
            exact ⟨by rw [HB0.out]; rfl, HK⟩
          · go_wp2_with fail
            go_at_call 46
            refine (unhide F4 _).mono ?_
            rintro e w' ⟨rfl, rfl⟩
            clear F4
            go_wp2_with fail
            go_meet
            exact ⟨by rw [HB0.out]; rfl, HK⟩
  case rest =>
    obtain ⟨rfl, hC⟩ := hcut
    clear HK F1 F2 F3 F4 HB0
    go_wp2_with fail
    go_loop [4, 5] (fun o i => ∃ (k : Nat) (r : Bool), k ≤ 4 ∧ i = .int .i64 (k : Int) ∧ o = .bool r ∧ Hid (r = (b0 && fitB 2 ((sealL Z).take k)))) (fun _ i => 4 - (intOf i).toNat)
    case atStart => exact ⟨0, b0, by omega, rfl, rfl, by show b0 = _; simp [fitB]⟩
    case round =>
      obtain ⟨k, r, hk, rfl, rfl, hr⟩ := hrel
      by_cases hlt : k < 4
      · have HR := hide (HJ.out k hlt r hr.out)
        clear hr
        rcases four' hlt with rfl | rfl | rfl | rfl
        all_goals
          cases r
          · go_wp2_with fail
            exact ⟨⟨_, _, by decide, rfl, rfl, HR⟩, by simp [intOf]⟩
          · have fd2 := hC.out.1 2 _ rfl
            have fd3 := hC.out.1 3 _ rfl
            have fd4 := hC.out.1 4 _ rfl
            have fd5 := hC.out.1 5 _ rfl
            go_wp2_with fail
            go_at_call 46
            refine (unhide FD _ _).mono ?_
            rintro e w' ⟨rfl, rfl⟩
            go_wp2_with fail
            exact ⟨⟨_, _, by decide, rfl, rfl, HR⟩, by simp [intOf]⟩
      · obtain rfl : k = 4 := by omega
        obtain rfl : r = true := by rw [hr.out]; exact HF.out
        clear hr HJ FD
        have f8 := hC.out.1 8 _ rfl
        go_wp2_with fail
        go_ret2
        exact ⟨rfl, hC.out.2.1⟩

set_option maxHeartbeats 8000000 in
theorem refRecord_good (Z : Nat → Int) (s : ByteArray) (w : World) (hf : recF Z = true) (h : s.size ≤ 65511) (M : Nat) (hM : M = 24 + s.size + 6) :
    Calls Tryd.prog 24 #[Rv Z s] w fun e w' => ∃ a c, e = .returned (.tuple #[.slice a M c, .int .i64 0]) ∧ Hid (Has w' a M (frameB (recL Z s))) ∧ Below w.heap.size w w' := by
  have hd : decide ((s.size : Int) > 65511) = false := by simp; omega
  have HV : Hid ((0 ≤ Z 0 ∧ Z 0 ≤ 4294967296) ∧ (0 ≤ Z 1 ∧ Z 1 ≤ 4294967296) ∧ (0 ≤ Z 6 ∧ Z 6 ≤ 4294967296) ∧ (0 ≤ Z 7 ∧ Z 7 ≤ 4294967296) ∧ ∀ k, k < 4 → 0 ≤ Z (2 + k) ∧ Z (2 + k) ≤ 4294967296) := by
    have h1 := hf
    unfold recF at h1
    simp only [Bool.and_eq_true] at h1
    obtain ⟨h4, h2⟩ := h1
    refine ⟨fit_bd h4 (by omega) _ (by simp), fit_bd h4 (by omega) _ (by simp), fit_bd h4 (by omega) _ (by simp), fit_bd h4 (by omega) _ (by simp), fun k hk => fit_bd h2 (by omega) _ ?_⟩
    rcases four' hk with rfl | rfl | rfl | rfl <;> simp [sealL]
  have HM := hide (fun k hk => snums_take Z k hk)
  obtain ⟨K, hK⟩ : ∃ K, K = 24 + s.size := ⟨_, rfl⟩
  have KA : Hid (∀ u a c, Bx w (Rc Z s) u → Own (w.heap.size + 1) u a 24 c ([] ++ digits 4 (Z 0) ++ digits 4 (Z 1) ++ digits 4 (Z 6) ++ digits 4 (Z 7) ++ numsB 2 ((sealL Z).take 4)) → ∃ a2 c2 w2, (∀ ty, (Builtin.append_ #[26, 9] ty #[.slice a 24 c, .string s]).run Tryd.prog u = .ok (.slice a2 K c2) w2) ∧ Calls Tryd.prog 59 #[.slice a2 K c2] w2 fun e w' => ∃ a' c', e = .returned (.tuple #[.slice a' M c', .int .i64 0]) ∧ Hid (Has w' a' M (frameB (recL Z s))) ∧ Hid (Below w.heap.size w w')) := by
    intro u a c hB hO
    obtain ⟨a2, c2, w2, hr, hO2, hb2⟩ := append_text hO hB.2.2 s (by omega)
    rw [rec_bytes] at hO2
    have hB2 := hB.low hb2
    rw [← hK] at hr hO2
    refine ⟨a2, c2, w2, hr, ?_⟩
    refine (refFrame_good a2 K c2 (recL Z s) w2 (hO2.rowH (recL_byts Z s) (by omega)) (by omega)).mono ?_
    rintro e w' ⟨a', c', rfl, hO3, hb3⟩
    obtain rfl : K + 6 = M := by omega
    exact ⟨a', c', rfl, hO3.out.has, bchain hB2.2.1 hb3 (Nat.le_refl _)⟩
  clear h hM hK
  have HK := hide (Bx.start w (Rc Z s) 48)
  have hf' := hf
  rw [recF_split] at hf'
  obtain ⟨b0, hb0⟩ : ∃ b, (fitB 4 [Z 0] && (fitB 4 [Z 1] && (fitB 4 [Z 6] && fitB 4 [Z 7]))) = b := ⟨_, rfl⟩
  have HJ : Hid (∀ k, k < 4 → ∀ r, r = (b0 && fitB 2 ((sealL Z).take k)) → (r && fitB 2 [Z (2 + k)]) = (b0 && fitB 2 ((sealL Z).take (k + 1)))) := by
    intro k hk r hr
    rw [seal_take Z k hk, hr, Bool.and_assoc]
  rw [hb0] at hf'
  have HF := hide hf'
  obtain ⟨r1, er1⟩ : ∃ r, fitB 4 [Z 0] = r := ⟨_, rfl⟩
  obtain ⟨r2, er2⟩ : ∃ r, fitB 4 [Z 1] = r := ⟨_, rfl⟩
  obtain ⟨r3, er3⟩ : ∃ r, fitB 4 [Z 6] = r := ⟨_, rfl⟩
  obtain ⟨r4, er4⟩ : ∃ r, fitB 4 [Z 7] = r := ⟨_, rfl⟩
  have F1 : Hid (∀ u, Calls Tryd.prog 46 #[.int .i64 (Z 0), .int .i64 4] u fun e w' => e = .returned (.bool r1) ∧ u = w') := fun u => by have := fits_any (Z 0) 4 u (by omega); rwa [er1] at this
  have F2 : Hid (∀ u, Calls Tryd.prog 46 #[.int .i64 (Z 1), .int .i64 4] u fun e w' => e = .returned (.bool r2) ∧ u = w') := fun u => by have := fits_any (Z 1) 4 u (by omega); rwa [er2] at this
  have F3 : Hid (∀ u, Calls Tryd.prog 46 #[.int .i64 (Z 6), .int .i64 4] u fun e w' => e = .returned (.bool r3) ∧ u = w') := fun u => by have := fits_any (Z 6) 4 u (by omega); rwa [er3] at this
  have F4 : Hid (∀ u, Calls Tryd.prog 46 #[.int .i64 (Z 7), .int .i64 4] u fun e w' => e = .returned (.bool r4) ∧ u = w') := fun u => by have := fits_any (Z 7) 4 u (by omega); rwa [er4] at this
  rw [er1, er2, er3, er4] at hb0
  have HB0 : Hid (b0 = (r1 && (r2 && (r3 && r4)))) := hb0.symm
  have FD : Hid (∀ z u, Calls Tryd.prog 46 #[.int .i64 z, .int .i64 2] u fun e w' => e = .returned (.bool (fitB 2 [z])) ∧ u = w') := fun z u => fits_any z 2 u (by omega)
  clear hf hf' hb0 er1 er2 er3 er4
  go_enter Tryd.func24, Tryd.ntmps24
  go_upto_region 1 with fail
  change Code.wp _ _ _ _ (w.alloc (.cells (Rc Z s) 48))
  go_cut [4] (fun c wx => c = .bool b0 ∧ Hid (Bx w (Rc Z s) wx))
  case first =>
    have f0 := HK.out.1 0 _ rfl
    have f1 := HK.out.1 1 _ rfl
    have f6 := HK.out.1 6 _ rfl
    have f7 := HK.out.1 7 _ rfl
    clear HJ HF FD
    generalize w.alloc (.cells (Rc Z s) 48) = W at *
    cases r1
    · go_wp2_with fail
      go_at_call 46
      refine (unhide F1 _).mono ?_
      rintro e w' ⟨rfl, rfl⟩
      clear F1
      go_wp2_with fail
      go_meet
      exact ⟨by rw [HB0.out]; rfl, HK⟩
    · go_wp2_with fail
      go_at_call 46
      refine (unhide F1 _).mono ?_
      rintro e w' ⟨rfl, rfl⟩
      clear F1
      cases r2
      · go_wp2_with fail
        go_at_call 46
        refine (unhide F2 _).mono ?_
        rintro e w' ⟨rfl, rfl⟩
        clear F2
        go_wp2_with fail
        go_meet
        exact ⟨by rw [HB0.out]; rfl, HK⟩
      · go_wp2_with fail
        go_at_call 46
        refine (unhide F2 _).mono ?_
        rintro e w' ⟨rfl, rfl⟩
        clear F2
        cases r3
        · go_wp2_with fail
          go_at_call 46
          refine (unhide F3 _).mono ?_
          rintro e w' ⟨rfl, rfl⟩
          clear F3
          go_wp2_with fail
          go_meet
          exact ⟨by rw [HB0.out]; rfl, HK⟩
        · go_wp2_with fail
          go_at_call 46
          refine (unhide F3 _).mono ?_
          rintro e w' ⟨rfl, rfl⟩
          clear F3
          cases r4
          · go_wp2_with fail
            go_at_call 46
            refine (unhide F4 _).mono ?_
            rintro e w' ⟨rfl, rfl⟩
            clear F4
            go_wp2_with fail
            go_meet
            exact ⟨by rw [HB0.out]; rfl, HK⟩
          · go_wp2_with fail
            go_at_call 46
            refine (unhide F4 _).mono ?_
            rintro e w' ⟨rfl, rfl⟩
            clear F4
            go_wp2_with fail
            go_meet
            exact ⟨by rw [HB0.out]; rfl, HK⟩
  case rest =>
    obtain ⟨rfl, hC⟩ := hcut
    clear HK F1 F2 F3 F4 HB0
    go_wp2_with fail
    go_loop [4, 5] (fun o i => ∃ (k : Nat) (r : Bool), k ≤ 4 ∧ i = .int .i64 (k : Int) ∧ o = .bool r ∧ Hid (r = (b0 && fitB 2 ((sealL Z).take k)))) (fun _ i => 4 - (intOf i).toNat)
    case atStart => exact ⟨0, b0, by omega, rfl, rfl, by show b0 = _; simp [fitB]⟩
    case round =>
      obtain ⟨k, r, hk, rfl, rfl, hr⟩ := hrel
      by_cases hlt : k < 4
      · have HR := hide (HJ.out k hlt r hr.out)
        clear hr
        rcases four' hlt with rfl | rfl | rfl | rfl
        all_goals
          cases r
          · go_wp2_with fail
            exact ⟨⟨_, _, by decide, rfl, rfl, HR⟩, by simp [intOf]⟩
          · have fd2 := hC.out.1 2 _ rfl
            have fd3 := hC.out.1 3 _ rfl
            have fd4 := hC.out.1 4 _ rfl
            have fd5 := hC.out.1 5 _ rfl
            go_wp2_with fail
            go_at_call 46
            refine (unhide FD _ _).mono ?_
            rintro e w' ⟨rfl, rfl⟩
            go_wp2_with fail
            exact ⟨⟨_, _, by decide, rfl, rfl, HR⟩, by simp [intOf]⟩
      · obtain rfl : k = 4 := by omega
        obtain rfl : r = true := by rw [hr.out]; exact HF.out
        clear hr HJ FD
        have f8 := hC.out.1 8 _ rfl
        have f0 := hC.out.1 0 _ rfl
        go_wp2_with fail
        go_at_call 40
        refine (refput_m (w.heap.size + 1) _ 0 _ [] 4 (Z 0) _ 4 rfl (Own.none _ _) hC.out.2.2 ⟨by omega, by omega⟩ HV.out.1 (by omega)).mono ?_
        rintro e w1 ⟨a1, c1, rfl, hO1, hb⟩
        replace hC := hide (hC.out.low hb)
        clear f0 f8 hb
        have f1 := hC.out.1 1 _ rfl
        go_wp2_with fail
        go_at_call 40
        refine (refput_m (w.heap.size + 1) _ 4 _ _ 4 (Z 1) _ 8 rfl hO1.out hC.out.2.2 ⟨by omega, by omega⟩ HV.out.2.1 (by omega)).mono ?_
        rintro e w2 ⟨a2, c2, rfl, hO2, hb⟩
        replace hC := hide (hC.out.low hb)
        clear hb hO1 f1
        have f6 := hC.out.1 6 _ rfl
        go_wp2_with fail
        go_at_call 40
        refine (refput_m (w.heap.size + 1) _ 8 _ _ 4 (Z 6) _ 12 rfl hO2.out hC.out.2.2 ⟨by omega, by omega⟩ HV.out.2.2.1 (by omega)).mono ?_
        rintro e w3 ⟨a3, c3, rfl, hO3, hb⟩
        replace hC := hide (hC.out.low hb)
        clear hb hO2 f6
        have f7 := hC.out.1 7 _ rfl
        go_wp2_with fail
        go_at_call 40
        refine (refput_m (w.heap.size + 1) _ 12 _ _ 4 (Z 7) _ 16 rfl hO3.out hC.out.2.2 ⟨by omega, by omega⟩ HV.out.2.2.2.1 (by omega)).mono ?_
        rintro e w4 ⟨a4, c4, rfl, hO4, hb⟩
        replace hC := hide (hC.out.low hb)
        clear hb hO3 f7
        go_wp2_with fail
        go_loopw [6, 7] (fun s' i wr => ∃ (k m : Nat) (a : Option Addr) (c : Nat), k ≤ 4 ∧ i = .int .i64 (k : Int) ∧ s' = .slice a m c ∧ Hid (m = 16 + 2 * k ∧ Own (w.heap.size + 1) wr a m c ([] ++ digits 4 (Z 0) ++ digits 4 (Z 1) ++ digits 4 (Z 6) ++ digits 4 (Z 7) ++ numsB 2 ((sealL Z).take k))) ∧ Hid (Bx w (Rc Z s) wr)) (fun _ i _ => 4 - (intOf i).toNat)
        case atStart => exact ⟨0, 16, a4, c4, by omega, rfl, rfl, ⟨rfl, by simpa [numsB] using hO4.out⟩, hC⟩
        case round =>
          obtain ⟨k, m, a, c, hk, rfl, rfl, hO, hD⟩ := hrel
          clear hC hO4
          by_cases hlt : k < 4
          · have hv := HV.out.2.2.2.2 k hlt
            have hm := hO.out.1
            have KQ : Hid (∀ u, Bx w (Rc Z s) u → Own (w.heap.size + 1) u a m c ([] ++ digits 4 (Z 0) ++ digits 4 (Z 1) ++ digits 4 (Z 6) ++ digits 4 (Z 7) ++ numsB 2 ((sealL Z).take k)) → Calls Tryd.prog 40 #[.slice a m c, .int .i64 2, .int .i64 (Z (2 + k))] u fun e w' => ∃ a' c', e = .returned (.slice a' (m + 2) c') ∧ Hid (m + 2 = 16 + 2 * (k + 1) ∧ Own (w.heap.size + 1) w' a' (m + 2) c' ([] ++ digits 4 (Z 0) ++ digits 4 (Z 1) ++ digits 4 (Z 6) ++ digits 4 (Z 7) ++ numsB 2 ((sealL Z).take (k + 1)))) ∧ Hid (Bx w (Rc Z s) w')) := by
              intro u hBu hOu
              refine (refput_m (w.heap.size + 1) _ m _ _ 2 (Z (2 + k)) _ (m + 2) rfl hOu hBu.2.2 ⟨by omega, by omega⟩ hv (by omega)).mono ?_
              rintro e w' ⟨a', c', rfl, hO', hb⟩
              refine ⟨a', c', rfl, ⟨by omega, ?_⟩, hBu.low hb⟩
              have := hO'.out
              rwa [List.append_assoc, ← HM.out k hlt] at this
            clear hm hv
            rcases four' hlt with rfl | rfl | rfl | rfl
            all_goals
              have fd2 := hD.out.1 2 _ rfl
              have fd3 := hD.out.1 3 _ rfl
              have fd4 := hD.out.1 4 _ rfl
              have fd5 := hD.out.1 5 _ rfl
              go_wp2_with fail
              go_at_call 40
              refine (unhide KQ _ hD.out hO.out.2).mono ?_
              rintro e w5 ⟨a5, c5, rfl, hO5, hD5⟩
              clear fd2 fd3 fd4 fd5 KQ
              go_wp2_with fail
              exact ⟨⟨_, m + 2, a5, c5, by decide, rfl, rfl, hO5, hD5⟩, by simp [intOf]⟩
          · obtain rfl : k = 4 := by omega
            obtain rfl : m = 24 := hO.out.1
            have f8 := hD.out.1 8 _ rfl
            obtain ⟨a6, c6, w6, r6, k6⟩ := KA.out _ _ _ hD.out hO.out.2
            have R6 := hide r6
            have K6 := hide k6
            clear hO hD r6 k6 KA
            go_wp2_with (at_builtin; refine wpList_append_text 26 9 rfl _ _ rfl _ _ _ rfl rfl (unhide R6) ?_; clear R6)
            go_at_call 59
            refine (unhide K6).mono ?_
            rintro e w7 ⟨a7, c7, rfl, h7, b7⟩
            clear K6
            go_wp2_with fail
            go_ret2
            exact ⟨a7, c7, rfl, h7, b7.out⟩

end Go.Proofs.YtmdkcoenjadieaaDoor

/- Contracts of skerryref06.Desc. -/
namespace Go.Proofs.YtmdkcoenjadieaaDoor
open Go.RowKit Go.Shelf
set_option linter.unusedVariables false
set_option maxRecDepth 100000

set_option maxHeartbeats 2000000 in
theorem refDesc_arg (q : Int) (a : Option Addr) (len cap : Nat) (ns : List Int) (b : Int) (w : World) (h : ¬ isSize b) :
    Calls Tryd.prog 19 #[.int .i64 q, .slice a len cap, .int .i64 b] w fun e w' => e = .returned (.tuple #[.slice none 0 0, .int .i64 1]) ∧ Below w.heap.size w w' := by
  have K : Hid (∀ u, Calls Tryd.prog 45 #[.int .i64 b] u fun e w' => e = .returned (.bool false) ∧ u = w') := fun u => size_no b u h
  clear h
  go_enter Tryd.func19, Tryd.ntmps19
  go_wp2_with fail
  go_at_call 45
  refine (unhide K _).mono ?_
  rintro e w' ⟨rfl, rfl⟩
  clear K
  go_wp2_with fail
  go_ret2
  exact ⟨rfl, Below.refl _ _⟩

theorem fit_snoc (ns : List Int) (k : Nat) (hk : k < ns.length) : fitB 2 (ns.take (k + 1)) = (fitB 2 (ns.take k) && fitB 2 [ns[k]?.getD 0]) := by
  unfold fitB
  rw [List.take_succ_eq_append_getElem hk, List.all_append, List.getElem?_eq_getElem hk, Option.getD_some]

set_option maxHeartbeats 1000000 in
theorem refDesc_value (q : Int) (a : Option Addr) (len cap : Nat) (ns : List Int) (b : Int) (w : World) (h : isSize b) (hi : IHas w a len ns) (hl : len ≤ 17592186043904) (hf : descF q ns = false) :
    Calls Tryd.prog 19 #[.int .i64 q, .slice a len cap, .int .i64 b] w fun e w' => e = .returned (.tuple #[.slice none 0 0, .int .i64 3]) ∧ Below w.heap.size w w' := by
  have hbd := size_bd h
  have hlen := hi.1
  have K : Hid (∀ u, Calls Tryd.prog 45 #[.int .i64 b] u fun e w' => e = .returned (.bool true) ∧ u = w') := fun u => size_yes _ u h
  obtain ⟨b0, hb0⟩ : ∃ r, fitB 4 [q] = r := ⟨_, rfl⟩
  have F0 : Hid (∀ u, Calls Tryd.prog 46 #[.int .i64 q, .int .i64 4] u fun e w' => e = .returned (.bool b0) ∧ u = w') := fun u => by have := fits_any q 4 u (by omega); rwa [hb0] at this
  have FD : Hid (∀ z u, Calls Tryd.prog 46 #[.int .i64 z, .int .i64 2] u fun e w' => e = .returned (.bool (fitB 2 [z])) ∧ u = w') := fun z u => fits_any z 2 u (by omega)
  have HJ : Hid (∀ k, k < ns.length → ∀ r, r = (b0 && fitB 2 (ns.take k)) → (r && fitB 2 [ns[k]?.getD 0]) = (b0 && fitB 2 (ns.take (k + 1)))) := by
    intro k hk r hr
    rw [fit_snoc ns k hk, hr, Bool.and_assoc]
  have HF : Hid ((b0 && fitB 2 (ns.take len)) = false) := by
    rw [List.take_of_length_le (by omega), ← hb0]
    exact hf
  have HI := hide hi
  clear h hf hb0 hi
  go_enter Tryd.func19, Tryd.ntmps19
  go_wp2_with fail
  go_at_call 45
  refine (unhide K _).mono ?_
  rintro e w' ⟨rfl, rfl⟩
  clear K
  go_wp2_with fail
  go_at_call 46
  refine (unhide F0 _).mono ?_
  rintro e w' ⟨rfl, rfl⟩
  clear F0
  go_wp2_with fail
  go_loop [8, 9] (fun o i => ∃ (k : Nat) (r : Bool), k ≤ len ∧ i = .int .i64 (k : Int) ∧ o = .bool r ∧ Hid (r = (b0 && fitB 2 (ns.take k)))) (fun _ i => len - (intOf i).toNat)
  case atStart => exact ⟨0, b0, Nat.zero_le _, rfl, rfl, by show b0 = _; simp [fitB]⟩
  case round =>
    obtain ⟨k, r, hk, rfl, rfl, hr⟩ := hrel
    by_cases hlt : k < len
    · have HR := hide (HJ.out k (by omega) r hr.out)
      obtain ⟨bb, off, rfl, hc⟩ := HI.out.2 (by omega)
      have hck := hc k hlt
      clear hr hc
      generalize ns[k]?.getD 0 = z at *
      cases r
      · go_wp2_with fail
        exact ⟨⟨k + 1, _, by omega, by go_num, rfl, HR⟩, by simp [intOf]; omega⟩
      · go_wp2_with fail
        go_at_call 46
        refine (unhide FD _ _).mono ?_
        rintro e w' ⟨rfl, rfl⟩
        go_wp2_with fail
        exact ⟨⟨k + 1, _, by omega, by go_num, rfl, HR⟩, by simp [intOf]; omega⟩
    · obtain rfl : k = len := by omega
      obtain rfl : r = false := by rw [hr.out]; exact HF.out
      clear hr HJ FD
      go_wp2_with fail
      go_ret2
      exact ⟨rfl, Below.refl _ _⟩

set_option maxHeartbeats 1000000 in
theorem refDesc_large (q : Int) (a : Option Addr) (len cap : Nat) (ns : List Int) (b : Int) (w : World) (h : isSize b) (hi : IHas w a len ns) (hl : len ≤ 17592186043904) (hf : descF q ns = true) (hn : (b - 10) / 2 < (len : Int)) :
    Calls Tryd.prog 19 #[.int .i64 q, .slice a len cap, .int .i64 b] w fun e w' => e = .returned (.tuple #[.slice none 0 0, .int .i64 5]) ∧ Below w.heap.size w w' := by
  have hq1 : decide ((len : Int) > (b - 10) / 2) = true := by simpa using hn
  have hq2 : decide ((len : Int) > Int.tdiv (b - 10) 2) = true := by have := size_bd h; rw [Int.tdiv_eq_ediv_of_nonneg (by omega)]; exact hq1
  clear hn
  have hbd := size_bd h
  have hlen := hi.1
  have K : Hid (∀ u, Calls Tryd.prog 45 #[.int .i64 b] u fun e w' => e = .returned (.bool true) ∧ u = w') := fun u => size_yes _ u h
  obtain ⟨b0, hb0⟩ : ∃ r, fitB 4 [q] = r := ⟨_, rfl⟩
  have F0 : Hid (∀ u, Calls Tryd.prog 46 #[.int .i64 q, .int .i64 4] u fun e w' => e = .returned (.bool b0) ∧ u = w') := fun u => by have := fits_any q 4 u (by omega); rwa [hb0] at this
  have FD : Hid (∀ z u, Calls Tryd.prog 46 #[.int .i64 z, .int .i64 2] u fun e w' => e = .returned (.bool (fitB 2 [z])) ∧ u = w') := fun z u => fits_any z 2 u (by omega)
  have HJ : Hid (∀ k, k < ns.length → ∀ r, r = (b0 && fitB 2 (ns.take k)) → (r && fitB 2 [ns[k]?.getD 0]) = (b0 && fitB 2 (ns.take (k + 1)))) := by
    intro k hk r hr
    rw [fit_snoc ns k hk, hr, Bool.and_assoc]
  have HF : Hid ((b0 && fitB 2 (ns.take len)) = true) := by
    rw [List.take_of_length_le (by omega), ← hb0]
    exact hf
  have HI := hide hi
  clear h hf hb0 hi
  go_enter Tryd.func19, Tryd.ntmps19
  go_wp2_with fail
  go_at_call 45
  refine (unhide K _).mono ?_
  rintro e w' ⟨rfl, rfl⟩
  clear K
  go_wp2_with fail
  go_at_call 46
  refine (unhide F0 _).mono ?_
  rintro e w' ⟨rfl, rfl⟩
  clear F0
  go_wp2_with fail
  go_loop [8, 9] (fun o i => ∃ (k : Nat) (r : Bool), k ≤ len ∧ i = .int .i64 (k : Int) ∧ o = .bool r ∧ Hid (r = (b0 && fitB 2 (ns.take k)))) (fun _ i => len - (intOf i).toNat)
  case atStart => exact ⟨0, b0, Nat.zero_le _, rfl, rfl, by show b0 = _; simp [fitB]⟩
  case round =>
    obtain ⟨k, r, hk, rfl, rfl, hr⟩ := hrel
    by_cases hlt : k < len
    · have HR := hide (HJ.out k (by omega) r hr.out)
      obtain ⟨bb, off, rfl, hc⟩ := HI.out.2 (by omega)
      have hck := hc k hlt
      clear hr hc
      generalize ns[k]?.getD 0 = z at *
      cases r
      · go_wp2_with fail
        exact ⟨⟨k + 1, _, by omega, by go_num, rfl, HR⟩, by simp [intOf]; omega⟩
      · go_wp2_with fail
        go_at_call 46
        refine (unhide FD _ _).mono ?_
        rintro e w' ⟨rfl, rfl⟩
        go_wp2_with fail
        exact ⟨⟨k + 1, _, by omega, by go_num, rfl, HR⟩, by simp [intOf]; omega⟩
    · obtain rfl : k = len := by omega
      obtain rfl : r = true := by rw [hr.out]; exact HF.out
      clear hr HJ FD
      go_wp2_with fail
      go_ret2
      exact ⟨rfl, Below.refl _ _⟩

set_option maxHeartbeats 1000000 in
theorem refDesc_good (q : Int) (a : Option Addr) (len cap : Nat) (ns : List Int) (b : Nat) (w : World) (h : isSize (b : Int)) (hi : IHas w a len ns) (hf : descF q ns = true) (hn : 10 + 2 * len ≤ b) :
    Calls Tryd.prog 19 #[.int .i64 q, .slice a len cap, .int .i64 (b : Int)] w fun e w' => ∃ a' c', e = .returned (.tuple #[.slice a' b c', .int .i64 0]) ∧ Hid (Has w' a' b (descB b q ns)) ∧ Below w.heap.size w w' := by
  have hq1 : decide ((len : Int) > ((b : Int) - 10) / 2) = false := by simp; omega
  have hq2 : decide ((len : Int) > Int.tdiv ((b : Int) - 10) 2) = false := by have := size_bd h; rw [Int.tdiv_eq_ediv_of_nonneg (by omega)]; exact hq1
  have hbd0 := size_bd h
  have hlen0 := hi.1
  have HV : Hid ((0 ≤ q ∧ q ≤ 4294967296) ∧ ∀ k, k < len → 0 ≤ ns[k]?.getD 0 ∧ ns[k]?.getD 0 ≤ 4294967296) := by
    have h1 := hf
    unfold descF at h1
    rw [Bool.and_eq_true] at h1
    refine ⟨fit_bd h1.1 (by omega) _ (by simp), fun k hk => fit_bd h1.2 (by omega) _ ?_⟩
    rw [List.getElem?_eq_getElem (by omega)]
    exact List.getElem_mem _
  have HM := hide (fun k hk => numsB_succ 2 ns k hk)
  obtain ⟨D, hD⟩ : ∃ D : Nat, D = b - 4 := ⟨_, rfl⟩
  have hDi : (b : Int) - 4 = (D : Int) := by omega
  have hR0 : layB D ([] ++ digits 4 q ++ digits 2 (len : Int) ++ numsB 2 (ns.take len)) = descR b q ns := by
    rw [List.take_of_length_le (by omega), descR, hD, hlen0]
    simp [numsB]
  have HR := hide hR0
  have hl : len ≤ 2048 := by omega
  have HBy := hide (descR_byts b q ns)
  have hQ0 : descB b q ns = [] ++ digits 4 ((sumS (descR b q ns) : Nat) : Int) ++ descR b q ns := by
    rw [descB, layB_full]
    · simp
    · rw [List.length_append, length_digits, descR_length (by omega)]; omega
  have HQ := hide hQ0
  have HD : Hid (4 + D = b ∧ D ≤ 4092 ∧ 6 + 2 * len ≤ D) := ⟨by omega, by omega, by omega⟩
  have hS := sumS_lt (descR_byts b q ns)
  have HN := hide hn
  clear hR0 hQ0
  generalize descR b q ns = R at *
  clear hn hD hbd0 hlen0
  have hbd := size_bd h
  have hlen := hi.1
  have K : Hid (∀ u, Calls Tryd.prog 45 #[.int .i64 (b : Int)] u fun e w' => e = .returned (.bool true) ∧ u = w') := fun u => size_yes _ u h
  obtain ⟨b0, hb0⟩ : ∃ r, fitB 4 [q] = r := ⟨_, rfl⟩
  have F0 : Hid (∀ u, Calls Tryd.prog 46 #[.int .i64 q, .int .i64 4] u fun e w' => e = .returned (.bool b0) ∧ u = w') := fun u => by have := fits_any q 4 u (by omega); rwa [hb0] at this
  have FD : Hid (∀ z u, Calls Tryd.prog 46 #[.int .i64 z, .int .i64 2] u fun e w' => e = .returned (.bool (fitB 2 [z])) ∧ u = w') := fun z u => fits_any z 2 u (by omega)
  have HJ : Hid (∀ k, k < ns.length → ∀ r, r = (b0 && fitB 2 (ns.take k)) → (r && fitB 2 [ns[k]?.getD 0]) = (b0 && fitB 2 (ns.take (k + 1)))) := by
    intro k hk r hr
    rw [fit_snoc ns k hk, hr, Bool.and_assoc]
  have HF : Hid ((b0 && fitB 2 (ns.take len)) = true) := by
    rw [List.take_of_length_le (by omega), ← hb0]
    exact hf
  have HI := hide hi
  clear h hf hb0 hi
  go_enter Tryd.func19, Tryd.ntmps19
  go_wp2_with fail
  go_at_call 45
  refine (unhide K _).mono ?_
  rintro e w' ⟨rfl, rfl⟩
  clear K
  go_wp2_with fail
  go_at_call 46
  refine (unhide F0 _).mono ?_
  rintro e w' ⟨rfl, rfl⟩
  clear F0
  go_wp2_with fail
  go_loop [8, 9] (fun o i => ∃ (k : Nat) (r : Bool), k ≤ len ∧ i = .int .i64 (k : Int) ∧ o = .bool r ∧ Hid (r = (b0 && fitB 2 (ns.take k)))) (fun _ i => len - (intOf i).toNat)
  case atStart => exact ⟨0, b0, Nat.zero_le _, rfl, rfl, by show b0 = _; simp [fitB]⟩
  case round =>
    obtain ⟨k, r, hk, rfl, rfl, hr⟩ := hrel
    by_cases hlt : k < len
    · have HR := hide (HJ.out k (by omega) r hr.out)
      obtain ⟨bb, off, rfl, hc⟩ := HI.out.2 (by omega)
      have hck := hc k hlt
      clear hr hc
      generalize ns[k]?.getD 0 = z at *
      cases r
      · go_wp2_with fail
        exact ⟨⟨k + 1, _, by omega, by go_num, rfl, HR⟩, by simp [intOf]; omega⟩
      · go_wp2_with fail
        go_at_call 46
        refine (unhide FD _ _).mono ?_
        rintro e w' ⟨rfl, rfl⟩
        go_wp2_with fail
        exact ⟨⟨k + 1, _, by omega, by go_num, rfl, HR⟩, by simp [intOf]; omega⟩
    · obtain rfl : k = len := by omega
      obtain rfl : r = true := by rw [hr.out]; exact HF.out
      clear hr HJ FD
      have HB := hide (Below.refl w.heap.size w)
      go_wp2_with fail
      go_at_call 40
      refine (refput_m w.heap.size _ 0 _ [] 4 q _ 4 rfl (Own.none _ _) (Nat.le_refl _) ⟨by omega, by omega⟩ HV.out.1 (by omega)).mono ?_
      rintro e w1 ⟨a1, c1, rfl, hO1, hb⟩
      replace HB := hide (HB.out.trans hb)
      clear hb
      go_wp2_with fail
      go_at_call 40
      refine (refput_m w.heap.size _ 4 _ _ 2 (k : Int) _ 6 rfl hO1.out HB.out.size ⟨by omega, by omega⟩ (by have := HD.out; omega) (by omega)).mono ?_
      rintro e w2 ⟨a2, c2, rfl, hO2, hb⟩
      replace HB := hide (HB.out.trans hb)
      clear hb hO1
      go_wp2_with fail
      go_loopw [10, 11] (fun s' i wr => ∃ (j m : Nat) (a' : Option Addr) (c' : Nat), j ≤ k ∧ i = .int .i64 (j : Int) ∧ s' = .slice a' m c' ∧ Hid (m = 6 + 2 * j ∧ Own w.heap.size wr a' m c' ([] ++ digits 4 q ++ digits 2 (k : Int) ++ numsB 2 (ns.take j))) ∧ Hid (Below w.heap.size w wr)) (fun _ i _ => k - (intOf i).toNat)
      case atStart => exact ⟨0, 6, a2, c2, Nat.zero_le _, rfl, rfl, ⟨rfl, by simpa [numsB] using hO2.out⟩, HB⟩
      case round =>
        obtain ⟨j, m, a', c', hj, rfl, rfl, hO, hBj⟩ := hrel
        clear HB hO2
        by_cases hlt2 : j < k
        · have hv := HV.out.2 j hlt2
          have hm := hO.out.1
          obtain ⟨bb, off, rfl, hc⟩ := (HI.out.later hBj.out).2 (by omega)
          have hcj := hc j hlt2
          have hsu := HM.out j (by omega)
          generalize ns[j]?.getD 0 = z at *
          have KQ : Hid (Calls Tryd.prog 40 #[.slice a' m c', .int .i64 2, .int .i64 z] wr fun e w' => ∃ a5 c5, e = .returned (.slice a5 (m + 2) c5) ∧ Hid (m + 2 = 6 + 2 * (j + 1) ∧ Own w.heap.size w' a5 (m + 2) c5 ([] ++ digits 4 q ++ digits 2 (k : Int) ++ numsB 2 (ns.take (j + 1)))) ∧ Hid (Below w.heap.size w w')) := by
            refine (refput_m w.heap.size _ m _ _ 2 z _ (m + 2) rfl hO.out.2 hBj.out.size ⟨by omega, by omega⟩ hv (by have := HD.out; omega)).mono ?_
            rintro e w' ⟨a5, c5, rfl, hO', hb⟩
            refine ⟨a5, c5, rfl, ⟨by omega, ?_⟩, hBj.out.trans hb⟩
            have := hO'.out
            rwa [List.append_assoc, ← hsu] at this
          clear hm hv hc hsu hO hBj
          go_wp2_with fail
          go_at_call 40
          refine (unhide KQ).mono ?_
          rintro e w5 ⟨a5, c5, rfl, hO5, hB5⟩
          clear KQ hcj
          go_wp2_with fail
          exact ⟨⟨j + 1, m + 2, a5, c5, by omega, by go_num, rfl, hO5, hB5⟩, by simp [intOf]; omega⟩
        · obtain rfl : j = k := by omega
          have hOm := hO.out.1
          have KP : Hid (Calls Tryd.prog 42 #[.slice a' m c', .int .i64 (D : Int)] wr fun e w' => ∃ a5 c5, e = .returned (.slice a5 D c5) ∧ Hid (Own w.heap.size w' a5 D c5 R) ∧ Hid (Below w.heap.size w w')) := by
            refine (padded_any w.heap.size a' m c' D _ wr hO.out.2 hBj.out.size (by have := HD.out; omega) (by have := HD.out; omega)).mono ?_
            rintro e w' ⟨a5, c5, rfl, hO5, hb⟩
            refine ⟨a5, c5, rfl, ?_, hBj.out.trans hb⟩
            have := hO5.out
            rwa [HR.out] at this
          clear hO hBj HM HR hOm
          go_wp2_with fail
          go_at_call 42
          refine (unhide KP).mono ?_
          rintro e w6 ⟨a6, c6, rfl, hO6, hB6⟩
          clear KP
          have KS : Hid (Calls Tryd.prog 41 #[.slice a6 D c6] w6 fun e w' => e = .returned (.int .i64 ((sumS R : Nat) : Int)) ∧ w6 = w') := refSum_any _ D _ _ _ hO6.out.has (by have := HD.out; omega) HBy.out
          generalize sumS R = S at *
          go_wp2_with fail
          go_at_call 41
          refine (unhide KS).mono ?_
          rintro e w' ⟨rfl, rfl⟩
          clear KS
          have KZ : Hid (Calls Tryd.prog 40 #[.slice none 0 0, .int .i64 4, .int .i64 (S : Int)] w6 fun e w' => ∃ a7 c7 a8 c8 w8, e = .returned (.slice a7 4 c7) ∧ (∀ ty, (Builtin.append_ #[26, 26] ty #[.slice a7 4 c7, .slice a6 D c6]).run Tryd.prog w' = .ok (.slice a8 b c8) w8) ∧ Hid (Has w8 a8 b (descB b q ns)) ∧ Hid (Below w.heap.size w w8)) := by
            refine (refput_m w6.heap.size _ 0 _ [] 4 (S : Int) _ 4 rfl (Own.none _ _) (Nat.le_refl _) ⟨by omega, by omega⟩ (by omega) (by omega)).mono ?_
            rintro e w7 ⟨a7, c7, rfl, hO7, hb7⟩
            obtain ⟨a8, c8, w8, hr8, hO8, _, hb8⟩ := run_append_bytes (hO7.out.base hB6.out.size) (Nat.le_trans hB6.out.size hb7.size) c6 (hO6.out.has.later hb7) (by have := HD.out; omega)
            rw [HD.out.1] at hr8 hO8
            refine ⟨a7, c7, a8, c8, w8, rfl, hr8, ?_, (bchain hB6.out hb7 (Nat.le_refl _)).trans hb8⟩
            rw [HQ.out]
            exact hO8.has
          clear hO6 hB6 HQ hS
          go_wp2_with fail
          go_at_call 40
          refine (unhide KZ).mono ?_
          rintro e w7 ⟨a7, c7, a8, c8, w8, rfl, r8, x8, b8⟩
          have R8 := hide r8
          clear r8 KZ
          go_wp2_with (at_builtin; refine wpList_append_run 26 rfl _ _ rfl _ _ _ rfl rfl (unhide R8) ?_; clear R8)
          go_ret2
          exact ⟨a8, c8, rfl, x8, b8.out⟩

end Go.Proofs.YtmdkcoenjadieaaDoor

