/- Joined: CRRec, RecordsWalk. -/
import Derived.Test.YtmdkcoenjadieaaDoorUCRec2
import Derived.Test.YtmdkcoenjadieaaDoorUJ36
import Derived.Test.YtmdkcoenjadieaaDoorUJ27
import Derived.Test.YtmdkcoenjadieaaDoorUGAppS
import Derived.Test.YtmdkcoenjadieaaDoorUJ43
import Derived.Test.YtmdkcoenjadieaaDoorUJ38
import Derived.Test.YtmdkcoenjadieaaDoorUJ33
import Derived.Test.YtmdkcoenjadieaaDoorUGSame
/- Contracts of skerryref06.Record. -/
namespace Go.Proofs.YtmdkcoenjadieaaDoor
open Go.RowKit Go.Shelf
set_option linter.unusedVariables false
set_option maxRecDepth 100000

theorem Bx.low {w u u' : World} {cs : Array Value} (h : Bx w cs u) (hb : Below (w.heap.size + 1) u u') : Bx w cs u' :=
  ⟨fun k v hk => (hb.cell (p := ⟨w.heap.size, k, none⟩) (Nat.lt_succ_self _)).trans (h.1 k v hk), h.2.1.trans (hb.mono (Nat.le_succ _)), Nat.lt_of_lt_of_le h.2.2 hb.size⟩

theorem Own.none (B : Nat) (u : World) : Own B u none 0 0 [] := ⟨rfl, Nat.le_refl _, Nat.zero_le _, .inl ⟨rfl, rfl, rfl⟩⟩

theorem refput_m (B : Nat) (a : Option Addr) (n c : Nat) (xs : List Int) (wd : Nat) (v : Int) (w : World) (m : Nat) (hm : m = n + wd) (h : Own B w a n c xs) (hB : B ≤ w.heap.size) (hw : 1 ≤ wd ∧ wd ≤ 4) (h0 : 0 ≤ v ∧ v ≤ 4294967296) (hn : n ≤ 100000) :
    Calls Tryd.prog 40 #[.slice a n c, .int .i64 (wd : Int), .int .i64 v] w fun e w' => ∃ a' c', e = .returned (.slice a' m c') ∧ Hid (Own B w' a' m c' (xs ++ digits wd v)) ∧ Below B w w' := by
  subst hm
  exact refput_any B a n c xs wd v w (.inl h) hB hw h0.1 h0.2 (by omega)

theorem fit_bd {wd : Nat} {ns : List Int} (h : fitB wd ns = true) (hw : wd ≤ 4) (v : Int) (hv : v ∈ ns) : 0 ≤ v ∧ v ≤ 4294967296 := by
  have := fitB_iff.1 h v hv
  have h1 : (256 : Int) ^ wd ≤ 4294967296 := by
    have : wd = 0 ∨ wd = 1 ∨ wd = 2 ∨ wd = 3 ∨ wd = 4 := by omega
    rcases this with rfl | rfl | rfl | rfl | rfl <;> decide
  omega

theorem seal_take (Z : Nat → Int) (k : Nat) (hk : k < 4) : fitB 2 ((sealL Z).take (k + 1)) = (fitB 2 ((sealL Z).take k) && fitB 2 [Z (2 + k)]) := by
  rcases four' hk with rfl | rfl | rfl | rfl <;> simp [sealL, fitB, Bool.and_assoc]

theorem snums_take (Z : Nat → Int) (k : Nat) (hk : k < 4) : numsB 2 ((sealL Z).take (k + 1)) = numsB 2 ((sealL Z).take k) ++ digits 2 (Z (2 + k)) := by
  rw [numsB_succ 2 (sealL Z) k (by simp [sealL]; omega)]
  rcases four' hk with rfl | rfl | rfl | rfl <;> rfl

theorem rec_bytes (Z : Nat → Int) (s : ByteArray) : [] ++ digits 4 (Z 0) ++ digits 4 (Z 1) ++ digits 4 (Z 6) ++ digits 4 (Z 7) ++ numsB 2 ((sealL Z).take 4) ++ byts s = recL Z s := by
  have e8 : (sealL Z).take 4 = sealL Z := rfl
  rw [e8]
  simp [recL, numsB]

theorem recF_split (Z : Nat → Int) : recF Z = ((fitB 4 [Z 0] && (fitB 4 [Z 1] && (fitB 4 [Z 6] && fitB 4 [Z 7]))) && fitB 2 ((sealL Z).take 4)) := by
  have e8 : (sealL Z).take 4 = sealL Z := rfl
  rw [e8]
  unfold recF
  have e : fitB 4 [Z 0, Z 1, Z 6, Z 7] = (fitB 4 [Z 0] && (fitB 4 [Z 1] && (fitB 4 [Z 6] && fitB 4 [Z 7]))) := by simp [fitB]
  rw [e]

theorem wpList_append_text {w w' : World} {ops : Array Oper} {rest : List Oper} {o : Oper} {a : Act} {Q : Exit → Act → World → Prop} (t u : TypeId) (hgd : o.guard = none) (d s : Operand)
    (ho : o.op = .call { callee := .builtin .append, args := #[d, s], argTypes := #[t, u] }) (v x v' : Value) (hd : a.eval d = v) (hs : a.eval s = x)
    (hrun : ∀ ty, (Builtin.append_ #[t, u] ty #[v, x]).run Tryd.prog w = .ok v' w')
    (h : wpList Tryd.prog ops Q rest (a.put o.dst v') w') : wpList Tryd.prog ops Q (o :: rest) a w := by
  refine wpList_plain hgd fun K hK => ?_
  have hr := hrun o.type
  unfold Oper.wp
  simp [execOp, ho, resolve, invoke, builtin, hd, hs, hr, Result.andThen]
  exact hK _ _ h

set_option maxHeartbeats 8000000 in
theorem refRecord_value (Z : Nat → Int) (s : ByteArray) (w : World) (hf : recF Z = false) :
    Calls Tryd.prog 24 #[Rv Z s] w fun e w' => e = .returned (.tuple #[.slice none 0 0, .int .i64 3]) ∧ Below w.heap.size w w' := by
  have HK := hide (Bx.start w (Rc Z s) 48)
  have hf' := hf
  rw [recF_split] at hf'
  obtain ⟨b0, hb0⟩ : ∃ b, (fitB 4 [Z 0] && (fitB 4 [Z 1] && (fitB 4 [Z 6] && fitB 4 [Z 7]))) = b := ⟨_, rfl⟩
  have HJ : Hid (∀ k, k < 4 → ∀ r, r = (b0 && fitB 2 ((sealL Z).take k)) → (r && fitB 2 [Z (2 + k)]) = (b0 && fitB 2 ((sealL Z).take (k + 1)))) := by
    intro k hk r hr
    rw [seal_take Z k hk, hr, Bool.and_assoc]
  rw [hb0] at hf'
  have HF := hide hf'
  obtain ⟨r1, er1⟩ : ∃ r, fitB 4 [Z 0] = r := ⟨_, rfl⟩
  obtain ⟨r2, er2⟩ : ∃ r, fitB 4 [Z 1] = r := ⟨_, rfl⟩
  obtain ⟨r3, er3⟩ : ∃ r, fitB 4 [Z 6] = r := ⟨_, rfl⟩
  obtain ⟨r4, er4⟩ : ∃ r, fitB 4 [Z 7] = r := ⟨_, rfl⟩
  have F1 : Hid (∀ u, Calls Tryd.prog 46 #[.int .i64 (Z 0), .int .i64 4] u fun e w' => e = .returned (.bool r1) ∧ u = w') := fun u => by have := fits_any (Z 0) 4 u (by omega); rwa [er1] at this
  have F2 : Hid (∀ u, Calls Tryd.prog 46 #[.int .i64 (Z 1), .int .i64 4] u fun e w' => e = .returned (.bool r2) ∧ u = w') := fun u => by have := fits_any (Z 1) 4 u (by omega); rwa [er2] at this
  have F3 : Hid (∀ u, Calls Tryd.prog 46 #[.int .i64 (Z 6), .int .i64 4] u fun e w' => e = .returned (.bool r3) ∧ u = w') := fun u => by have := fits_any (Z 6) 4 u (by omega); rwa [er3] at this
  have F4 : Hid (∀ u, Calls Tryd.prog 46 #[.int .i64 (Z 7), .int .i64 4] u fun e w' => e = .returned (.bool r4) ∧ u = w') := fun u => by have := fits_any (Z 7) 4 u (by omega); rwa [er4] at this
  rw [er1, er2, er3, er4] at hb0
  have HB0 : Hid (b0 = (r1 && (r2 && (r3 && r4)))) := hb0.symm
  have FD : Hid (∀ z u, Calls Tryd.prog 46 #[.int .i64 z, .int .i64 2] u fun e w' => e = .returned (.bool (fitB 2 [z])) ∧ u = w') := fun z u => fits_any z 2 u (by omega)
  clear hf hf' hb0 er1 er2 er3 er4
  go_enter Tryd.func24, Tryd.ntmps24
  go_upto_region 1 with fail
  change Code.wp _ _ _ _ (w.alloc (.cells (Rc Z s) 48))
  go_cut [4] (fun c wx => c = .bool b0 ∧ Hid (Bx w (Rc Z s) wx))
  case first =>
    have f0 := HK.out.1 0 _ rfl
    have f1 := HK.out.1 1 _ rfl
    have f6 := HK.out.1 6 _ rfl
    have f7 := HK.out.1 7 _ rfl
    clear HJ HF FD
    generalize w.alloc (.cells (Rc Z s) 48) = W at *
    cases r1
    · go_wp2_with fail
      go_at_call 46
      refine (unhide F1 _).mono ?_
      rintro e w' ⟨rfl, rfl⟩
      clear F1
      go_wp2_with fail
      go_meet
      exact ⟨by rw [HB0.out]; rfl, HK⟩
    · go_wp2_with fail
      go_at_call 46
      refine (unhide F1 _).mono ?_
      rintro e w' ⟨rfl, rfl⟩
      clear F1
      cases r2
      · go_wp2_with fail
        go_at_call 46
        refine (unhide F2 _).mono ?_
        rintro e w' ⟨rfl, rfl⟩
        clear F2
        go_wp2_with fail
        go_meet
        exact ⟨by rw [HB0.out]; rfl, HK⟩
      · go_wp2_with fail
        go_at_call 46
        refine (unhide F2 _).mono ?_
        rintro e w' ⟨rfl, rfl⟩
        clear F2
        cases r3
        · go_wp2_with fail
          go_at_call 46
          refine (unhide F3 _).mono ?_
          rintro e w' ⟨rfl, rfl⟩
          clear F3
          go_wp2_with fail
          go_meet
          exact ⟨by rw [HB0.out]; rfl, HK⟩
        · go_wp2_with fail
          go_at_call 46
          refine (unhide F3 _).mono ?_
          rintro e w' ⟨rfl, rfl⟩
          clear F3
          cases r4
          · go_wp2_with fail
            go_at_call 46
            refine (unhide F4 _).mono ?_
            rintro e w' ⟨rfl, rfl⟩
            clear F4
            go_wp2_with fail
            go_meet
            exact ⟨by rw [HB0.out]; rfl, HK⟩
          · go_wp2_with fail
            go_at_call 46
            refine (unhide F4 _).mono ?_
            rintro e w' ⟨rfl, rfl⟩
            clear F4
            go_wp2_with fail
            go_meet
            exact ⟨by rw [HB0.out]; rfl, HK⟩
  case rest =>
    obtain ⟨rfl, hC⟩ := hcut
    clear HK F1 F2 F3 F4 HB0
    go_wp2_with fail
    go_loop [4, 5] (fun o i => ∃ (k : Nat) (r : Bool), k ≤ 4 ∧ i = .int .i64 (k : Int) ∧ o = .bool r ∧ Hid (r = (b0 && fitB 2 ((sealL Z).take k)))) (fun _ i => 4 - (intOf i).toNat)
    case atStart => exact ⟨0, b0, by omega, rfl, rfl, by show b0 = _; simp [fitB]⟩
    case round =>
      obtain ⟨k, r, hk, rfl, rfl, hr⟩ := hrel
      by_cases hlt : k < 4
      · have HR := hide (HJ.out k hlt r hr.out)
        clear hr
        rcases four' hlt with rfl | rfl | rfl | rfl
        all_goals
          cases r
          · go_wp2_with fail
            exact ⟨⟨_, _, by decide, rfl, rfl, HR⟩, by simp [intOf]⟩
          · have fd2 := hC.out.1 2 _ rfl
            have fd3 := hC.out.1 3 _ rfl
            have fd4 := hC.out.1 4 _ rfl
            have fd5 := hC.out.1 5 _ rfl
            go_wp2_with fail
            go_at_call 46
            refine (unhide FD _ _).mono ?_
            rintro e w' ⟨rfl, rfl⟩
            go_wp2_with fail
            exact ⟨⟨_, _, by decide, rfl, rfl, HR⟩, by simp [intOf]⟩
      · obtain rfl : k = 4 := by omega
        obtain rfl : r = false := by rw [hr.out]; exact HF.out
        clear hr HJ FD
        go_wp2_with fail
        go_ret2
        exact ⟨rfl, hC.out.2.1⟩

set_option maxHeartbeats 8000000 in
theorem refRecord_large (Z : Nat → Int) (s : ByteArray) (w : World) (hf : recF Z = true) (hs : s.size ≤ 140737488351232) (h : 65511 < s.size) :
    Calls Tryd.prog 24 #[Rv Z s] w fun e w' => e = .returned (.tuple #[.slice none 0 0, .int .i64 5]) ∧ Below w.heap.size w w' := by
  have hd : decide ((s.size : Int) > 65511) = true := by simp; omega
  clear h
  have HK := hide (Bx.start w (Rc Z s) 48)
  have hf' := hf
  rw [recF_split] at hf'
  obtain ⟨b0, hb0⟩ : ∃ b, (fitB 4 [Z 0] && (fitB 4 [Z 1] && (fitB 4 [Z 6] && fitB 4 [Z 7]))) = b := ⟨_, rfl⟩
  have HJ : Hid (∀ k, k < 4 → ∀ r, r = (b0 && fitB 2 ((sealL Z).take k)) → (r && fitB 2 [Z (2 + k)]) = (b0 && fitB 2 ((sealL Z).take (k + 1)))) := by
    intro k hk r hr
    rw [seal_take Z k hk, hr, Bool.and_assoc]
  rw [hb0] at hf'
  have HF := hide hf'
  obtain ⟨r1, er1⟩ : ∃ r, fitB 4 [Z 0] = r := ⟨_, rfl⟩
  obtain ⟨r2, er2⟩ : ∃ r, fitB 4 [Z 1] = r := ⟨_, rfl⟩
  obtain ⟨r3, er3⟩ : ∃ r, fitB 4 [Z 6] = r := ⟨_, rfl⟩
  obtain ⟨r4, er4⟩ : ∃ r, fitB 4 [Z 7] = r := ⟨_, rfl⟩
  have F1 : Hid (∀ u, Calls Tryd.prog 46 #[.int .i64 (Z 0), .int .i64 4] u fun e w' => e = .returned (.bool r1) ∧ u = w') := fun u => by have := fits_any (Z 0) 4 u (by omega); rwa [er1] at this
  have F2 : Hid (∀ u, Calls Tryd.prog 46 #[.int .i64 (Z 1), .int .i64 4] u fun e w' => e = .returned (.bool r2) ∧ u = w') := fun u => by have := fits_any (Z 1) 4 u (by omega); rwa [er2] at this
  have F3 : Hid (∀ u, Calls Tryd.prog 46 #[.int .i64 (Z 6), .int .i64 4] u fun e w' => e = .returned (.bool r3) ∧ u = w') := fun u => by have := fits_any (Z 6) 4 u (by omega); rwa [er3] at this
  have F4 : Hid (∀ u, Calls Tryd.prog 46 #[.int .i64 (Z 7), .int .i64 4] u fun e w' => e = .returned (.bool r4) ∧ u = w') := fun u => by have := fits_any (Z 7) 4 u (by omega); rwa [er4] at this
  rw [er1, er2, er3, er4] at hb0
  have HB0 : Hid (b0 = (r1 && (r2 && (r3 && r4)))) := hb0.symm
  have FD : Hid (∀ z u, Calls Tryd.prog 46 #[.int .i64 z, .int .i64 2] u fun e w' => e = .returned (.bool (fitB 2 [z])) ∧ u = w') := fun z u => fits_any z 2 u (by omega)
  clear hf hf' hb0 er1 er2 er3 er4
  go_enter Tryd.func24, Tryd.ntmps24
  go_upto_region 1 with fail
  change Code.wp _ _ _ _ (w.alloc (.cells (Rc Z s) 48))
  go_cut [4] (fun c wx => c = .bool b0 ∧ Hid (Bx w (Rc Z s) wx))
  case first =>
    have f0 := HK.out.1 0 _ rfl
    have f1 := HK.out.1 1 _ rfl
    have f6 := HK.out.1 6 _ rfl
    have f7 := HK.out.1 7 _ rfl
    clear HJ HF FD
    generalize w.alloc (.cells (Rc Z s) 48) = W at *
    cases r1
    · go_wp2_with fail
      go_at_call 46
      refine (unhide F1 _).mono ?_
      rintro e w' ⟨rfl, rfl⟩
      clear F1
      go_wp2_with fail
      go_meet
      exact ⟨by rw [HB0.out]; rfl, HK⟩
    · go_wp2_with fail
      go_at_call 46
      refine (unhide F1 _).mono ?_
      rintro e w' ⟨rfl, rfl⟩
      clear F1
      cases r2
      · go_wp2_with fail
        go_at_call 46
        refine (unhide F2 _).mono ?_
        rintro e w' ⟨rfl, rfl⟩
        clear F2
        go_wp2_with fail
        go_meet
        exact ⟨by rw [HB0.out]; rfl, HK⟩
      · go_wp2_with fail
        go_at_call 46
        refine (unhide F2 _).mono ?_
        rintro e w' ⟨rfl, rfl⟩
        clear F2
        cases r3
        · go_wp2_with fail
          go_at_call 46
          refine (unhide F3 _).mono ?_
          rintro e w' ⟨rfl, rfl⟩
          clear F3
          go_wp2_with fail
          go_meet
          exact ⟨by rw [HB0.out]; rfl, HK⟩
        · go_wp2_with fail
          go_at_call 46
          refine (unhide F3 _).mono ?_
          rintro e w' ⟨rfl, rfl⟩
          clear F3
          cases r4
          · go_wp2_with fail
            go_at_call 46
            refine (unhide F4 _).mono ?_
            rintro e w' ⟨rfl, rfl⟩
            clear F4
            go_wp2_with fail
            go_meet
            exact ⟨by rw [HB0.out]; rfl, HK⟩
          · go_wp2_with fail
            go_at_call 46
            refine (unhide F4 _).mono ?_
            rintro e w' ⟨rfl, rfl⟩
            clear F4
            go_wp2_with fail
            go_meet
            exact ⟨by rw [HB0.out]; rfl, HK⟩
  case rest =>
    obtain ⟨rfl, hC⟩ := hcut
    clear HK F1 F2 F3 F4 HB0
    go_wp2_with fail
    go_loop [4, 5] (fun o i => ∃ (k : Nat) (r : Bool), k ≤ 4 ∧ i = .int .i64 (k : Int) ∧ o = .bool r ∧ Hid (r = (b0 && fitB 2 ((sealL Z).take k)))) (fun _ i => 4 - (intOf i).toNat)
    case atStart => exact ⟨0, b0, by omega, rfl, rfl, by show b0 = _; simp [fitB]⟩
    case round =>
      obtain ⟨k, r, hk, rfl, rfl, hr⟩ := hrel
      by_cases hlt : k < 4
      · have HR := hide (HJ.out k hlt r hr.out)
        clear hr
        rcases four' hlt with rfl | rfl | rfl | rfl
        all_goals
          cases r
          · go_wp2_with fail
            exact ⟨⟨_, _, by decide, rfl, rfl, HR⟩, by simp [intOf]⟩
          · have fd2 := hC.out.1 2 _ rfl
            have fd3 := hC.out.1 3 _ rfl
            have fd4 := hC.out.1 4 _ rfl
            have fd5 := hC.out.1 5 _ rfl
            go_wp2_with fail
            go_at_call 46
            refine (unhide FD _ _).mono ?_
            rintro e w' ⟨rfl, rfl⟩
            go_wp2_with fail
            exact ⟨⟨_, _, by decide, rfl, rfl, HR⟩, by simp [intOf]⟩
      · obtain rfl : k = 4 := by omega
        obtain rfl : r = true := by rw [hr.out]; exact HF.out
        clear hr HJ FD
        have f8 := hC.out.1 8 _ rfl
        go_wp2_with fail
        go_ret2
        exact ⟨rfl, hC.out.2.1⟩

set_option maxHeartbeats 8000000 in
theorem refRecord_good (Z : Nat → Int) (s : ByteArray) (w : World) (hf : recF Z = true) (h : s.size ≤ 65511) (M : Nat) (hM : M = 24 + s.size + 6) :
    Calls Tryd.prog 24 #[Rv Z s] w fun e w' => ∃ a c, e = .returned (.tuple #[.slice a M c, .int .i64 0]) ∧ Hid (Has w' a M (frameB (recL Z s))) ∧ Below w.heap.size w w' := by
  have hd : decide ((s.size : Int) > 65511) = false := by simp; omega
  have HV : Hid ((0 ≤ Z 0 ∧ Z 0 ≤ 4294967296) ∧ (0 ≤ Z 1 ∧ Z 1 ≤ 4294967296) ∧ (0 ≤ Z 6 ∧ Z 6 ≤ 4294967296) ∧ (0 ≤ Z 7 ∧ Z 7 ≤ 4294967296) ∧ ∀ k, k < 4 → 0 ≤ Z (2 + k) ∧ Z (2 + k) ≤ 4294967296) := by
    have h1 := hf
    unfold recF at h1
    simp only [Bool.and_eq_true] at h1
    obtain ⟨h4, h2⟩ := h1
    refine ⟨fit_bd h4 (by omega) _ (by simp), fit_bd h4 (by omega) _ (by simp), fit_bd h4 (by omega) _ (by simp), fit_bd h4 (by omega) _ (by simp), fun k hk => fit_bd h2 (by omega) _ ?_⟩
    rcases four' hk with rfl | rfl | rfl | rfl <;> simp [sealL]
  have HM := hide (fun k hk => snums_take Z k hk)
  obtain ⟨K, hK⟩ : ∃ K, K = 24 + s.size := ⟨_, rfl⟩
  have KA : Hid (∀ u a c, Bx w (Rc Z s) u → Own (w.heap.size + 1) u a 24 c ([] ++ digits 4 (Z 0) ++ digits 4 (Z 1) ++ digits 4 (Z 6) ++ digits 4 (Z 7) ++ numsB 2 ((sealL Z).take 4)) → ∃ a2 c2 w2, (∀ ty, (Builtin.append_ #[26, 9] ty #[.slice a 24 c, .string s]).run Tryd.prog u = .ok (.slice a2 K c2) w2) ∧ Calls Tryd.prog 59 #[.slice a2 K c2] w2 fun e w' => ∃ a' c', e = .returned (.tuple #[.slice a' M c', .int .i64 0]) ∧ Hid (Has w' a' M (frameB (recL Z s))) ∧ Hid (Below w.heap.size w w')) := by
    intro u a c hB hO
    obtain ⟨a2, c2, w2, hr, hO2, hb2⟩ := append_text hO hB.2.2 s (by omega)
    rw [rec_bytes] at hO2
    have hB2 := hB.low hb2
    rw [← hK] at hr hO2
    refine ⟨a2, c2, w2, hr, ?_⟩
    refine (refFrame_good a2 K c2 (recL Z s) w2 (hO2.rowH (recL_byts Z s) (by omega)) (by omega)).mono ?_
    rintro e w' ⟨a', c', rfl, hO3, hb3⟩
    obtain rfl : K + 6 = M := by omega
    exact ⟨a', c', rfl, hO3.out.has, bchain hB2.2.1 hb3 (Nat.le_refl _)⟩
  clear h hM hK
  have HK := hide (Bx.start w (Rc Z s) 48)
  have hf' := hf
  rw [recF_split] at hf'
  obtain ⟨b0, hb0⟩ : ∃ b, (fitB 4 [Z 0] && (fitB 4 [Z 1] && (fitB 4 [Z 6] && fitB 4 [Z 7]))) = b := ⟨_, rfl⟩
  have HJ : Hid (∀ k, k < 4 → ∀ r, r = (b0 && fitB 2 ((sealL Z).take k)) → (r && fitB 2 [Z (2 + k)]) = (b0 && fitB 2 ((sealL Z).take (k + 1)))) := by
    intro k hk r hr
    rw [seal_take Z k hk, hr, Bool.and_assoc]
  rw [hb0] at hf'
  have HF := hide hf'
  obtain ⟨r1, er1⟩ : ∃ r, fitB 4 [Z 0] = r := ⟨_, rfl⟩
  obtain ⟨r2, er2⟩ : ∃ r, fitB 4 [Z 1] = r := ⟨_, rfl⟩
  obtain ⟨r3, er3⟩ : ∃ r, fitB 4 [Z 6] = r := ⟨_, rfl⟩
  obtain ⟨r4, er4⟩ : ∃ r, fitB 4 [Z 7] = r := ⟨_, rfl⟩
  have F1 : Hid (∀ u, Calls Tryd.prog 46 #[.int .i64 (Z 0), .int .i64 4] u fun e w' => e = .returned (.bool r1) ∧ u = w') := fun u => by have := fits_any (Z 0) 4 u (by omega); rwa [er1] at this
  have F2 : Hid (∀ u, Calls Tryd.prog 46 #[.int .i64 (Z 1), .int .i64 4] u fun e w' => e = .returned (.bool r2) ∧ u = w') := fun u => by have := fits_any (Z 1) 4 u (by omega); rwa [er2] at this
  have F3 : Hid (∀ u, Calls Tryd.prog 46 #[.int .i64 (Z 6), .int .i64 4] u fun e w' => e = .returned (.bool r3) ∧ u = w') := fun u => by have := fits_any (Z 6) 4 u (by omega); rwa [er3] at this
  have F4 : Hid (∀ u, Calls Tryd.prog 46 #[.int .i64 (Z 7), .int .i64 4] u fun e w' => e = .returned (.bool r4) ∧ u = w') := fun u => by have := fits_any (Z 7) 4 u (by omega); rwa [er4] at this
  rw [er1, er2, er3, er4] at hb0
  have HB0 : Hid (b0 = (r1 && (r2 && (r3 && r4)))) := hb0.symm
  have FD : Hid (∀ z u, Calls Tryd.prog 46 #[.int .i64 z, .int .i64 2] u fun e w' => e = .returned (.bool (fitB 2 [z])) ∧ u = w') := fun z u => fits_any z 2 u (by omega)
  clear hf hf' hb0 er1 er2 er3 er4
  go_enter Tryd.func24, Tryd.ntmps24
  go_upto_region 1 with fail
  change Code.wp _ _ _ _ (w.alloc (.cells (Rc Z s) 48))
  go_cut [4] (fun c wx => c = .bool b0 ∧ Hid (Bx w (Rc Z s) wx))
  case first =>
    have f0 := HK.out.1 0 _ rfl
    have f1 := HK.out.1 1 _ rfl
    have f6 := HK.out.1 6 _ rfl
    have f7 := HK.out.1 7 _ rfl
    clear HJ HF FD
    generalize w.alloc (.cells (Rc Z s) 48) = W at *
    cases r1
    · go_wp2_with fail
      go_at_call 46
      refine (unhide F1 _).mono ?_
      rintro e w' ⟨rfl, rfl⟩
      clear F1
      go_wp2_with fail
      go_meet
      exact ⟨by rw [HB0.out]; rfl, HK⟩
    · go_wp2_with fail
      go_at_call 46
      refine (unhide F1 _).mono ?_
      rintro e w' ⟨rfl, rfl⟩
      clear F1
      cases r2
      · go_wp2_with fail
        go_at_call 46
        refine (unhide F2 _).mono ?_
        rintro e w' ⟨rfl, rfl⟩
        clear F2
        go_wp2_with fail
        go_meet
        exact ⟨by rw [HB0.out]; rfl, HK⟩
      · go_wp2_with fail
        go_at_call 46
        refine (unhide F2 _).mono ?_
        rintro e w' ⟨rfl, rfl⟩
        clear F2
        cases r3
        · go_wp2_with fail
          go_at_call 46
          refine (unhide F3 _).mono ?_
          rintro e w' ⟨rfl, rfl⟩
          clear F3
          go_wp2_with fail
          go_meet
          exact ⟨by rw [HB0.out]; rfl, HK⟩
        · go_wp2_with fail
          go_at_call 46
          refine (unhide F3 _).mono ?_
          rintro e w' ⟨rfl, rfl⟩
          clear F3
          cases r4
          · go_wp2_with fail
            go_at_call 46
            refine (unhide F4 _).mono ?_
            rintro e w' ⟨rfl, rfl⟩
            clear F4
            go_wp2_with fail
            go_meet
            exact ⟨by rw [HB0.out]; rfl, HK⟩
          · go_wp2_with fail
            go_at_call 46
            refine (unhide F4 _).mono ?_
            rintro e w' ⟨rfl, rfl⟩
            clear F4
            go_wp2_with fail
            go_meet
            exact ⟨by rw [HB0.out]; rfl, HK⟩
  case rest =>
    obtain ⟨rfl, hC⟩ := hcut
    clear HK F1 F2 F3 F4 HB0
    go_wp2_with fail
    go_loop [4, 5] (fun o i => ∃ (k : Nat) (r : Bool), k ≤ 4 ∧ i = .int .i64 (k : Int) ∧ o = .bool r ∧ Hid (r = (b0 && fitB 2 ((sealL Z).take k)))) (fun _ i => 4 - (intOf i).toNat)
    case atStart => exact ⟨0, b0, by omega, rfl, rfl, by show b0 = _; simp [fitB]⟩
    case round =>
      obtain ⟨k, r, hk, rfl, rfl, hr⟩ := hrel
      by_cases hlt : k < 4
      · have HR := hide (HJ.out k hlt r hr.out)
        clear hr
        rcases four' hlt with rfl | rfl | rfl | rfl
        all_goals
          cases r
          · go_wp2_with fail
            exact ⟨⟨_, _, by decide, rfl, rfl, HR⟩, by simp [intOf]⟩
          · have fd2 := hC.out.1 2 _ rfl
            have fd3 := hC.out.1 3 _ rfl
            have fd4 := hC.out.1 4 _ rfl
            have fd5 := hC.out.1 5 _ rfl
            go_wp2_with fail
            go_at_call 46
            refine (unhide FD _ _).mono ?_
            rintro e w' ⟨rfl, rfl⟩
            go_wp2_with fail
            exact ⟨⟨_, _, by decide, rfl, rfl, HR⟩, by simp [intOf]⟩
      · obtain rfl : k = 4 := by omega
        obtain rfl : r = true := by rw [hr.out]; exact HF.out
        clear hr HJ FD
        have f8 := hC.out.1 8 _ rfl
        have f0 := hC.out.1 0 _ rfl
        go_wp2_with fail
        go_at_call 40
        refine (refput_m (w.heap.size + 1) _ 0 _ [] 4 (Z 0) _ 4 rfl (Own.none _ _) hC.out.2.2 ⟨by omega, by omega⟩ HV.out.1 (by omega)).mono ?_
        rintro e w1 ⟨a1, c1, rfl, hO1, hb⟩
        replace hC := hide (hC.out.low hb)
        clear f0 f8 hb
        have f1 := hC.out.1 1 _ rfl
        go_wp2_with fail
        go_at_call 40
        refine (refput_m (w.heap.size + 1) _ 4 _ _ 4 (Z 1) _ 8 rfl hO1.out hC.out.2.2 ⟨by omega, by omega⟩ HV.out.2.1 (by omega)).mono ?_
        rintro e w2 ⟨a2, c2, rfl, hO2, hb⟩
        replace hC := hide (hC.out.low hb)
        clear hb hO1 f1
        have f6 := hC.out.1 6 _ rfl
        go_wp2_with fail
        go_at_call 40
        refine (refput_m (w.heap.size + 1) _ 8 _ _ 4 (Z 6) _ 12 rfl hO2.out hC.out.2.2 ⟨by omega, by omega⟩ HV.out.2.2.1 (by omega)).mono ?_
        rintro e w3 ⟨a3, c3, rfl, hO3, hb⟩
        replace hC := hide (hC.out.low hb)
        clear hb hO2 f6
        have f7 := hC.out.1 7 _ rfl
        go_wp2_with fail
        go_at_call 40
        refine (refput_m (w.heap.size + 1) _ 12 _ _ 4 (Z 7) _ 16 rfl hO3.out hC.out.2.2 ⟨by omega, by omega⟩ HV.out.2.2.2.1 (by omega)).mono ?_
        rintro e w4 ⟨a4, c4, rfl, hO4, hb⟩
        replace hC := hide (hC.out.low hb)
        clear hb hO3 f7
        go_wp2_with fail
        go_loopw [6, 7] (fun s' i wr => ∃ (k m : Nat) (a : Option Addr) (c : Nat), k ≤ 4 ∧ i = .int .i64 (k : Int) ∧ s' = .slice a m c ∧ Hid (m = 16 + 2 * k ∧ Own (w.heap.size + 1) wr a m c ([] ++ digits 4 (Z 0) ++ digits 4 (Z 1) ++ digits 4 (Z 6) ++ digits 4 (Z 7) ++ numsB 2 ((sealL Z).take k))) ∧ Hid (Bx w (Rc Z s) wr)) (fun _ i _ => 4 - (intOf i).toNat)
        case atStart => exact ⟨0, 16, a4, c4, by omega, rfl, rfl, ⟨rfl, by simpa [numsB] using hO4.out⟩, hC⟩
        case round =>
          obtain ⟨k, m, a, c, hk, rfl, rfl, hO, hD⟩ := hrel
          clear hC hO4
          by_cases hlt : k < 4
          · have hv := HV.out.2.2.2.2 k hlt
            have hm := hO.out.1
            have KQ : Hid (∀ u, Bx w (Rc Z s) u → Own (w.heap.size + 1) u a m c ([] ++ digits 4 (Z 0) ++ digits 4 (Z 1) ++ digits 4 (Z 6) ++ digits 4 (Z 7) ++ numsB 2 ((sealL Z).take k)) → Calls Tryd.prog 40 #[.slice a m c, .int .i64 2, .int .i64 (Z (2 + k))] u fun e w' => ∃ a' c', e = .returned (.slice a' (m + 2) c') ∧ Hid (m + 2 = 16 + 2 * (k + 1) ∧ Own (w.heap.size + 1) w' a' (m + 2) c' ([] ++ digits 4 (Z 0) ++ digits 4 (Z 1) ++ digits 4 (Z 6) ++ digits 4 (Z 7) ++ numsB 2 ((sealL Z).take (k + 1)))) ∧ Hid (Bx w (Rc Z s) w')) := by
              intro u hBu hOu
              refine (refput_m (w.heap.size + 1) _ m _ _ 2 (Z (2 + k)) _ (m + 2) rfl hOu hBu.2.2 ⟨by omega, by omega⟩ hv (by omega)).mono ?_
              rintro e w' ⟨a', c', rfl, hO', hb⟩
              refine ⟨a', c', rfl, ⟨by omega, ?_⟩, hBu.low hb⟩
              have := hO'.out
              rwa [List.append_assoc, ← HM.out k hlt] at this
            clear hm hv
            rcases four' hlt with rfl | rfl | rfl | rfl
            all_goals
              have fd2 := hD.out.1 2 _ rfl
              have fd3 := hD.out.1 3 _ rfl
              have fd4 := hD.out.1 4 _ rfl
              have fd5 := hD.out.1 5 _ rfl
              go_wp2_with fail
              go_at_call 40
              refine (unhide KQ _ hD.out hO.out.2).mono ?_
              rintro e w5 ⟨a5, c5, rfl, hO5, hD5⟩
              clear fd2 fd3 fd4 fd5 KQ
              go_wp2_with fail
              exact ⟨⟨_, m + 2, a5, c5, by decide, rfl, rfl, hO5, hD5⟩, by simp [intOf]⟩
          · obtain rfl : k = 4 := by omega
            obtain rfl : m = 24 := hO.out.1
            have f8 := hD.out.1 8 _ rfl
            obtain ⟨a6, c6, w6, r6, k6⟩ := KA.out _ _ _ hD.out hO.out.2
            have R6 := hide r6
            have K6 := hide k6
            clear hO hD r6 k6 KA
            go_wp2_with (at_builtin; refine wpList_append_text 26 9 rfl _ _ rfl _ _ _ rfl rfl (unhide R6) ?_; clear R6)
            go_at_call 59
            refine (unhide K6).mono ?_
            rintro e w7 ⟨a7, c7, rfl, h7, b7⟩
            clear K6
            go_wp2_with fail
            go_ret2
            exact ⟨a7, c7, rfl, h7, b7.out⟩

end Go.Proofs.YtmdkcoenjadieaaDoor

/- CodecRecords' walk. -/
namespace Go.Proofs.YtmdkcoenjadieaaDoor
open Go.RowKit Go.Shelf
set_option linter.unusedVariables false
set_option maxRecDepth 100000

/-- A writer's answer: these bytes, this error. -/
def WAR (f : FuncId) (args : Array Value) (E : Int) (n : Nat) (L : List Int) (u : World) : Prop :=
  Calls Tryd.prog f args u fun e w' => ∃ a c, e = .returned (.tuple #[.slice a n c, .int .i64 E]) ∧ Hid (Has w' a n L) ∧ Below u.heap.size u w'

theorem war_err {f : FuncId} {args : Array Value} {q : Int} {u : World} (h : Calls Tryd.prog f args u fun e w' => e = .returned (.tuple #[.slice none 0 0, .int .i64 q]) ∧ Below u.heap.size u w') : WAR f args q 0 [] u := by
  refine Calls.mono h ?_
  rintro e w' ⟨rfl, hb⟩
  exact ⟨_, _, rfl, Has.nil _, hb⟩

theorem record_ans (Z : Nat → Int) (s : ByteArray) (hs : s.size ≤ 140737488351232) : ∃ E n L, ∀ u, Tab u → WAR 23 #[Rv Z s] E n L u ∧ WAR 24 #[Rv Z s] E n L u := by
  by_cases hf : recF Z = true
  · by_cases hl : s.size ≤ 65511
    · refine ⟨0, 24 + s.size + 6, frameB (recL Z s), fun u hT => ⟨?_, refRecord_good Z s u hf hl _ rfl⟩⟩
      refine Calls.mono (record_ok Z s u hf hl hT) ?_
      rintro e w' ⟨a, c, rfl, hh, hb⟩
      exact ⟨a, c, rfl, hh.out.1, hb⟩
    · refine ⟨5, 0, [], fun u hT => ⟨?_, war_err (refRecord_large Z s u hf hs (by omega))⟩⟩
      refine Calls.mono (record_large Z s u hf hs (by omega)) ?_
      rintro e w' ⟨a, c, rfl, hh, hb⟩
      exact ⟨a, c, rfl, hh.out.1, hb⟩
  · have hf : recF Z = false := by simpa using hf
    exact ⟨3, 0, [], fun u hT => ⟨war_err (record_value Z s u hf), war_err (refRecord_value Z s u hf)⟩⟩

theorem refUnrecord_any (a : Option Addr) (len cap : Nat) (zs : List Int) (at' : Int) (u : World) (hr : Row u.heap.size u a len cap zs) :
    (unE zs at' ≠ 0 → RA3 26 #[.slice a len cap, .int .i64 at'] (.agg Rz) 0 (unE zs at') u) ∧
    (unE zs at' = 0 → sizeB (zs.drop at'.toNat) < 24 → RA3 26 #[.slice a len cap, .int .i64 at'] (.agg Rz) 0 4 u) ∧
    (unE zs at' = 0 → 24 ≤ sizeB (zs.drop at'.toNat) → RA3 26 #[.slice a len cap, .int .i64 at'] (Rv (recOf (payB zs at')) (recS (payB zs at'))) (at' + (sizeB (zs.drop at'.toNat) : Int) + 6) 0 u) := by
  have KU : ∀ u2, Below u.heap.size u u2 → Calls Tryd.prog 62 #[.slice a len cap, .int .i64 at'] u2 fun e w' => UnAns u2 w' e at' (zs.drop at'.toNat) (unE zs at') ∧ Below u2.heap.size u2 w' := fun u2 hb => refUnframe_any a len cap zs at' u2 (hr.below hb hb.size)
  have hbz : Byts (zs.drop at'.toNat) := fun z hz => hr.2.2.2.1 z (List.mem_of_mem_drop hz)
  have good : unE zs at' = 0 → sizeB (zs.drop at'.toNat) ≤ 65535 ∧ Hid (∀ u2, Below u.heap.size u u2 → Calls Tryd.prog 62 #[.slice a len cap, .int .i64 at'] u2 fun e w' => ∃ a' c', e = .returned (.tuple #[.slice a' (sizeB (zs.drop at'.toNat)) c', .int .i64 (at' + (sizeB (zs.drop at'.toNat) : Int) + 6), .int .i64 0]) ∧ Hid (Row w'.heap.size w' a' (sizeB (zs.drop at'.toNat)) c' (payB zs at')) ∧ Below u2.heap.size u2 w') := by
    intro h0
    have hsz : sizeB (zs.drop at'.toNat) ≤ 65535 := by
      have h0' := h0
      unfold unE at h0'
      split at h0'
      · omega
      · split at h0'
        · omega
        · rcases restE_cases (zs.drop at'.toNat) with h | h | h | h
          · omega
          · omega
          · omega
          · exact (sizeB_num hbz (by omega)).2
    refine ⟨hsz, fun u2 hb => (KU u2 hb).mono ?_⟩
    rintro e w' ⟨hA, hb'⟩
    rcases hA with ⟨h1, _⟩ | ⟨_, a', c', e1, hO⟩
    · exact absurd h0 h1
    · exact ⟨a', c', e1, hO.rowH (fun z hz => hbz z (List.mem_of_mem_drop (List.mem_of_mem_take hz))) (by omega), hb'⟩
  refine ⟨fun h => ?_, fun h h2 => ?_, fun h h2 => ?_⟩
  · refine refUnrecord_err a len cap at' u (unE zs at') (by simpa using h) fun u2 hb => (KU u2 hb).mono ?_
    rintro e w' ⟨hA, hb'⟩
    rcases hA with ⟨_, e1⟩ | ⟨h1, _⟩
    · exact ⟨e1, hb'⟩
    · exact absurd h1 h
  · exact refUnrecord_short a len cap at' u _ _ _ h2 (good h).2
  · exact refUnrecord_good a len cap at' u _ _ _ h2 (good h).1 (good h).2

theorem unrecord_ans (a : Option Addr) (len cap : Nat) (zs : List Int) (at' : Int) : ∃ Z s n q, ∀ u, Tab u → Row u.heap.size u a len cap zs → RA3 25 #[.slice a len cap, .int .i64 at'] (Rv Z s) n q u ∧ RA3 26 #[.slice a len cap, .int .i64 at'] (Rv Z s) n q u := by
  by_cases h : unE zs at' = 0
  · by_cases h2 : sizeB (zs.drop at'.toNat) < 24
    · exact ⟨fun _ => 0, ⟨#[]⟩, 0, 4, fun u hT hr => ⟨(unrecord_any a len cap zs at' u hT hr).2.1 h h2, (refUnrecord_any a len cap zs at' u hr).2.1 h h2⟩⟩
    · exact ⟨_, _, _, 0, fun u hT hr => ⟨(unrecord_any a len cap zs at' u hT hr).2.2 h (by omega), (refUnrecord_any a len cap zs at' u hr).2.2 h (by omega)⟩⟩
  · exact ⟨fun _ => 0, ⟨#[]⟩, 0, _, fun u hT hr => ⟨(unrecord_any a len cap zs at' u hT hr).1 h, (refUnrecord_any a len cap zs at' u hr).1 h⟩⟩

set_option maxHeartbeats 16000000 in
theorem records_walk (Z : Nat → Int) (s : ByteArray) (a : Option Addr) (len cap : Nat) (zs : List Int) (at' : Int) (w : World) (hr : Row w.heap.size w a len cap zs) (hs : s.size ≤ 140737488351232) (hT : Tab w) :
    Calls Tryd.prog 5 #[Rv Z s, .slice a len cap, .int .i64 at'] w fun e w' => e = .returned (.bool true) ∧ Below w.heap.size w w' := by
  obtain ⟨E1, n1, L1, S1⟩ := record_ans Z s hs
  obtain ⟨Y, t, m, q, S3⟩ := unrecord_ans a len cap zs at'
  have K1 := hide (fun u (hb : Below w.heap.size w u) => (S1 u (hT.below hb (tab_size hT))).1)
  have K2 := hide (fun u (hb : Below w.heap.size w u) => (S1 u (hT.below hb (tab_size hT))).2)
  have K3 := hide (fun u (hb : Below w.heap.size w u) => (S3 u (hT.below hb (tab_size hT)) (hr.below hb hb.size)).1)
  have K4 := hide (fun u (hb : Below w.heap.size w u) => (S3 u (hT.below hb (tab_size hT)) (hr.below hb hb.size)).2)
  have HQ := hide (fun u => eql_record Y t u)
  have KW := hide wakes_any
  have BP := hide (Bl.new w (Rc Z s) 48)
  have HB := hide ((Below.refl _ w).alloc (Nat.le_refl _) (.cells (Rc Z s) 48))
  clear hr hT hs S1 S3
  go_enter Tryd.func5, Tryd.ntmps5
  go_wp2_with fail
  go_at_call 8
  refine (unhide KW _).mono ?_
  rintro e w1 ⟨rfl, hb⟩
  replace BP := hide (BP.out.call hb)
  replace HB := hide (bchain HB.out hb (Nat.le_refl _))
  clear hb KW
  have p0 := BP.out.cell 0 _ rfl
  have p1 := BP.out.cell 1 _ rfl
  have p2 := BP.out.cell 2 _ rfl
  have p3 := BP.out.cell 3 _ rfl
  have p4 := BP.out.cell 4 _ rfl
  have p5 := BP.out.cell 5 _ rfl
  have p6 := BP.out.cell 6 _ rfl
  have p7 := BP.out.cell 7 _ rfl
  have p8 := BP.out.cell 8 _ rfl
  go_wp2_with fail
  go_at_call 23
  refine Calls.mono (unhide K1 _ HB.out) ?_
  rintro e w2 ⟨a1, c1, rfl, h1, hb⟩
  replace BP := hide (BP.out.call hb)
  replace HB := hide (bchain HB.out hb (Nat.le_refl _))
  clear hb K1 p0 p1 p2 p3 p4 p5 p6 p7 p8
  have p0 := BP.out.cell 0 _ rfl
  have p1 := BP.out.cell 1 _ rfl
  have p2 := BP.out.cell 2 _ rfl
  have p3 := BP.out.cell 3 _ rfl
  have p4 := BP.out.cell 4 _ rfl
  have p5 := BP.out.cell 5 _ rfl
  have p6 := BP.out.cell 6 _ rfl
  have p7 := BP.out.cell 7 _ rfl
  have p8 := BP.out.cell 8 _ rfl
  go_wp2_with fail
  go_at_call 24
  refine Calls.mono (unhide K2 _ HB.out) ?_
  rintro e w3 ⟨a2, c2, rfl, h2, hb⟩
  replace BP := hide (BP.out.call hb)
  replace HB := hide (bchain HB.out hb (Nat.le_refl _))
  replace h1 := hide (h1.out.later hb)
  clear hb K2 p0 p1 p2 p3 p4 p5 p6 p7 p8
  clear BP
  go_wp2_with fail
  go_at_call 25
  refine Calls.mono (unhide K3 _ HB.out) ?_
  rintro e w4 ⟨rfl, hb⟩
  replace HB := hide ((bchain HB.out hb (Nat.le_refl _)).alloc (bchain HB.out hb (Nat.le_refl _)).size (.cells (Rc Y t) 48))
  replace h1 := hide ((h1.out.later hb).later ((Below.refl _ _).alloc (Nat.le_refl _) (.cells (Rc Y t) 48)))
  replace h2 := hide ((h2.out.later hb).later ((Below.refl _ _).alloc (Nat.le_refl _) (.cells (Rc Y t) 48)))
  have b3 := hide (Bl.new w4 (Rc Y t) 48)
  clear hb K3
  go_upto_region 6 with fail
  change Code.wp _ _ _ _ (w4.alloc (.cells (Rc Y t) 48))
  generalize w4.alloc (.cells (Rc Y t) 48) = v4 at *
  generalize w4.heap.size = g4 at *
  go_wp2_with fail
  go_at_call 26
  refine Calls.mono (unhide K4 _ HB.out) ?_
  rintro e w5 ⟨rfl, hb⟩
  replace HB := hide ((bchain HB.out hb (Nat.le_refl _)).alloc (bchain HB.out hb (Nat.le_refl _)).size (.cells (Rc Y t) 48))
  replace h1 := hide ((h1.out.later hb).later ((Below.refl _ _).alloc (Nat.le_refl _) (.cells (Rc Y t) 48)))
  replace h2 := hide ((h2.out.later hb).later ((Below.refl _ _).alloc (Nat.le_refl _) (.cells (Rc Y t) 48)))
  replace b3 := hide ((b3.out.call hb).alloc (.cells (Rc Y t) 48))
  have b4 := hide (Bl.new w5 (Rc Y t) 48)
  clear hb K4
  go_upto_region 7 with fail
  change Code.wp _ _ _ _ (w5.alloc (.cells (Rc Y t) 48))
  generalize w5.alloc (.cells (Rc Y t) 48) = v5 at *
  generalize w5.heap.size = g5 at *
  have KA := hide (same_true a1 a2 n1 c1 c2 L1 v5 h1.out h2.out)
  clear h1 h2
  go_wp2_with fail
  go_at_call 17
  refine (unhide KA).mono ?_
  rintro e w' ⟨rfl, rfl⟩
  clear KA
  have yq : ∀ u : World, (binOp .eql 48 (Rv Y t) (Rv Y t)).run Tryd.prog u = .ok (.bool true) u := HQ.out
  have x0 := b3.out.cell 0 _ rfl
  have x1 := b3.out.cell 1 _ rfl
  have x2 := b3.out.cell 2 _ rfl
  have x3 := b3.out.cell 3 _ rfl
  have x4 := b3.out.cell 4 _ rfl
  have x5 := b3.out.cell 5 _ rfl
  have x6 := b3.out.cell 6 _ rfl
  have x7 := b3.out.cell 7 _ rfl
  have x8 := b3.out.cell 8 _ rfl
  have y0 := b4.out.cell 0 _ rfl
  have yy1 := b4.out.cell 1 _ rfl
  have y2 := b4.out.cell 2 _ rfl
  have y3 := b4.out.cell 3 _ rfl
  have y4 := b4.out.cell 4 _ rfl
  have y5 := b4.out.cell 5 _ rfl
  have y6 := b4.out.cell 6 _ rfl
  have y7 := b4.out.cell 7 _ rfl
  have y8 := b4.out.cell 8 _ rfl
  go_wp2_with fail
  go_ret
  exact ⟨rfl, HB.out⟩

end Go.Proofs.YtmdkcoenjadieaaDoor

