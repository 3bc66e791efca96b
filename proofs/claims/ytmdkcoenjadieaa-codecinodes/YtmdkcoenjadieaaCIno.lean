/- Contracts of codec.isKind and codec.Inode. -/
import Derived.Test.YtmdkcoenjadieaaCEq
namespace Go.Proofs.Ytmdkcoenjadieaa
open Go.RowKit Go.Shelf
set_option linter.unusedVariables false
set_option maxRecDepth 100000

/-- The zero inode. -/
def zeroX : Nat → Int := fun _ => 0

/-- Is it a kind of inode? -/
def kindB (k : Int) : Bool := decide (k = 0) || decide (k = 1) || decide (k = 2)

set_option maxHeartbeats 2000000 in
theorem isKind_any (k : Int) (w : World) : Calls Try.prog 16 #[.int .i64 k] w fun e w' => e = .returned (.bool (kindB k)) ∧ w = w' := by
  obtain ⟨b, hb⟩ : ∃ b, kindB k = b := ⟨_, rfl⟩
  rw [hb]
  unfold kindB at hb
  by_cases h0 : k = 0
  · subst h0
    obtain rfl : b = true := by rw [← hb]; rfl
    clear hb
    go_enter Try.func16, Try.ntmps16
    go_wp2
    go_ret
    exact ⟨rfl, rfl⟩
  · by_cases h1 : k = 1
    · subst h1
      obtain rfl : b = true := by rw [← hb]; rfl
      clear hb h0
      go_enter Try.func16, Try.ntmps16
      go_wp2
      go_ret
      exact ⟨rfl, rfl⟩
    · by_cases h2 : k = 2
      · subst h2
        obtain rfl : b = true := by rw [← hb]; rfl
        clear hb h0 h1
        go_enter Try.func16, Try.ntmps16
        go_wp2
        go_ret
        exact ⟨rfl, rfl⟩
      · obtain rfl : b = false := by rw [← hb]; simp [h0, h1, h2]
        have d0 : (k == 0) = false := by simpa using h0
        have d1 : (k == 1) = false := by simpa using h1
        have d2 : (k == 2) = false := by simpa using h2
        clear hb h0 h1 h2
        go_enter Try.func16, Try.ntmps16
        go_wp2
        go_ret
        exact ⟨rfl, rfl⟩

theorem fit_lst (wd : Nat) (hw : wd = 2 ∨ wd = 4) (ns : List Int) (u : World) (hl : ns.length ≤ 1000) (r : Bool) (hr : fitB wd ns = r) :
    Calls Try.prog 17 #[.int .i64 (wd : Int), .slice (some ⟨u.heap.size, 0, none⟩) ns.length ns.length] (u.alloc (.cells (ns.map (Value.int .i64)).toArray 3)) fun e w' => e = .returned (.bool r) ∧ Below u.heap.size u w' := by
  subst hr
  refine (fit_any wd hw _ ns.length ns.length ns _ (ihas_list u ns) (by omega)).mono ?_
  rintro e w' ⟨rfl, rfl⟩
  exact ⟨rfl, (Below.refl _ u).alloc (Nat.le_refl _) _⟩

/-- An inode's blocks. -/
def dirs (X : Nat → Int) : List Int := [X 3, X 4, X 5, X 6, X 7, X 8, X 9, X 10]

theorem dirs_has {w u : World} {X : Nat → Int} (h : Bx w (Ic X) u) : IHas u (some ⟨w.heap.size, 3, none⟩) 8 (dirs X) := by
  refine ⟨rfl, fun _ => ⟨w.heap.size, 3, rfl, fun j hj => ?_⟩⟩
  have : j = 0 ∨ j = 1 ∨ j = 2 ∨ j = 3 ∨ j = 4 ∨ j = 5 ∨ j = 6 ∨ j = 7 := by omega
  rcases this with rfl | rfl | rfl | rfl | rfl | rfl | rfl | rfl
  all_goals exact h.1 _ _ rfl

theorem fit_dirs {w u : World} {X : Nat → Int} (h : Bx w (Ic X) u) (r : Bool) (hr : fitB 2 (dirs X) = r) :
    Calls Try.prog 17 #[.int .i64 2, .slice (some ⟨w.heap.size, 3, none⟩) 8 8] u fun e w' => e = .returned (.bool r) ∧ u = w' := by
  subst hr
  exact fit_any 2 (.inl rfl) _ 8 8 (dirs X) u (dirs_has h) (by omega)

/-- Is it an inode that can't be? -/
def inoBad (X : Nat → Int) : Bool := !kindB (X 0) || (X 0 == 0 && !inoSame X zeroX)

/-- Do its numbers fit? -/
def inoF (X : Nat → Int) : Bool := fitB 4 [X 2] && fitB 2 [X 1, X 11, X 12] && fitB 2 (dirs X)

/-- An inode's bytes, but the last four. -/
def inoL (X : Nat → Int) : List Int := numsB 1 [X 0, 0] ++ (numsB 2 [X 1] ++ (numsB 4 [X 2] ++ (numsB 2 (dirs X) ++ numsB 2 [X 11, X 12])))

theorem inoL_length (X : Nat → Int) : (inoL X).length = 28 := by simp [inoL, length_numsB, dirs]

theorem inoL_byts (X : Nat → Int) : ∀ z ∈ inoL X, 0 ≤ z ∧ z ≤ 255 := by
  intro z hz
  simp only [inoL, List.mem_append] at hz
  rcases hz with hz | hz | hz | hz | hz
  all_goals exact numsB_byte _ _ z hz

set_option maxHeartbeats 4000000 in
theorem inode_kind (X : Nat → Int) (w : World) (hk : kindB (X 0) = false) :
    Calls Try.prog 5 #[Iv X] w fun e w' => e = .returned (.tuple #[.slice none 0 0, .int .i64 4]) ∧ Below w.heap.size w w' := by
  have HK := hide (Bx.start w (Ic X) 24)
  have KK : Hid (∀ u, Calls Try.prog 16 #[.int .i64 (X 0)] u fun e w' => e = .returned (.bool false) ∧ Below u.heap.size u w') := fun u => (isKind_any (X 0) u).mono fun e w' ⟨h1, h2⟩ => ⟨by rw [h1, hk], h2 ▸ Below.refl _ _⟩
  clear hk
  go_enter Try.func5, Try.ntmps5
  go_wp2_with fail
  go_at_call 16
  refine (unhide KK _).mono ?_
  rintro e w1 ⟨rfl, hb⟩
  replace HK := hide ((unhide HK).call hb)
  clear KK hb
  go_wp2_with fail
  go_ret2
  exact ⟨rfl, HK.out.2.1⟩

set_option maxHeartbeats 4000000 in
theorem inode_free (X : Nat → Int) (w : World) (h0 : X 0 = 0) (hs : inoSame X zeroX = false) :
    Calls Try.prog 5 #[Iv X] w fun e w' => e = .returned (.tuple #[.slice none 0 0, .int .i64 4]) ∧ Below w.heap.size w w' := by
  have HK := hide (Bx.start w (Ic X) 24)
  have hk : kindB (X 0) = true := by rw [h0]; rfl
  have KK : Hid (∀ u, Calls Try.prog 16 #[.int .i64 (X 0)] u fun e w' => e = .returned (.bool true) ∧ Below u.heap.size u w') := fun u => (isKind_any (X 0) u).mono fun e w' ⟨h1, h2⟩ => ⟨by rw [h1, hk], h2 ▸ Below.refl _ _⟩
  have hq : ∀ u : World, (binOp .neq 24 (Iv X) (.agg Iz)).run Try.prog u = .ok (.bool true) u := fun u => by
    have := neq_inode X zeroX u
    rw [hs] at this
    exact this
  have h0' : (X 0 == 0) = true := by simpa using h0
  clear hk hs h0
  go_enter Try.func5, Try.ntmps5
  go_wp2_with fail
  go_at_call 16
  refine (unhide KK _).mono ?_
  rintro e w1 ⟨rfl, hb⟩
  replace HK := hide ((unhide HK).call hb)
  clear KK hb
  have f0 := HK.out.1 0 _ rfl
  have f1 := HK.out.1 1 _ rfl
  have f2 := HK.out.1 2 _ rfl
  have f3 := HK.out.1 3 _ rfl
  have f4 := HK.out.1 4 _ rfl
  have f5 := HK.out.1 5 _ rfl
  have f6 := HK.out.1 6 _ rfl
  have f7 := HK.out.1 7 _ rfl
  have f8 := HK.out.1 8 _ rfl
  have f9 := HK.out.1 9 _ rfl
  have f10 := HK.out.1 10 _ rfl
  have f11 := HK.out.1 11 _ rfl
  have f12 := HK.out.1 12 _ rfl
  go_wp2_with fail
  go_ret2
  exact ⟨rfl, HK.out.2.1⟩

set_option maxHeartbeats 4000000 in
theorem inode_v4 (X : Nat → Int) (w : World) (hk : kindB (X 0) = true) (h0 : (X 0 == 0) = false) (h4 : fitB 4 [X 2] = false) :
    Calls Try.prog 5 #[Iv X] w fun e w' => e = .returned (.tuple #[.slice none 0 0, .int .i64 3]) ∧ Below w.heap.size w w' := by
  have HK := hide (Bx.start w (Ic X) 24)
  have KK : Hid (∀ u, Calls Try.prog 16 #[.int .i64 (X 0)] u fun e w' => e = .returned (.bool true) ∧ Below u.heap.size u w') := fun u => (isKind_any (X 0) u).mono fun e w' ⟨h1, h2⟩ => ⟨by rw [h1, hk], h2 ▸ Below.refl _ _⟩
  have F4 : Hid (∀ u : World, Calls Try.prog 17 #[.int .i64 4, .slice (some ⟨u.heap.size, 0, none⟩) 1 1] (u.alloc (.cells #[.int .i64 (X 2)] 3)) fun e w' => e = .returned (.bool false) ∧ Below u.heap.size u w') :=
    fun u => fit_lst 4 (.inr rfl) [X 2] u (by simp) _ h4
  clear hk h4
  go_enter Try.func5, Try.ntmps5
  go_wp2_with fail
  go_at_call 16
  refine (unhide KK _).mono ?_
  rintro e w1 ⟨rfl, hb⟩
  replace HK := hide ((unhide HK).call hb)
  clear KK hb
  have f0 := HK.out.1 0 _ rfl
  have f2 := HK.out.1 2 _ rfl
  go_wp2_with fail
  go_at_call 17
  refine (unhide F4 _).mono ?_
  rintro e w2 ⟨rfl, hb⟩
  replace HK := hide ((unhide HK).call hb)
  clear hb F4 f0 f2
  go_wp2_with fail
  go_ret2
  exact ⟨rfl, HK.out.2.1⟩

set_option maxHeartbeats 4000000 in
theorem inode_v2 (X : Nat → Int) (w : World) (hk : kindB (X 0) = true) (h0 : (X 0 == 0) = false) (h4 : fitB 4 [X 2] = true) (h2 : fitB 2 [X 1, X 11, X 12] = false) :
    Calls Try.prog 5 #[Iv X] w fun e w' => e = .returned (.tuple #[.slice none 0 0, .int .i64 3]) ∧ Below w.heap.size w w' := by
  have HK := hide (Bx.start w (Ic X) 24)
  have KK : Hid (∀ u, Calls Try.prog 16 #[.int .i64 (X 0)] u fun e w' => e = .returned (.bool true) ∧ Below u.heap.size u w') := fun u => (isKind_any (X 0) u).mono fun e w' ⟨h1, h2⟩ => ⟨by rw [h1, hk], h2 ▸ Below.refl _ _⟩
  have F4 : Hid (∀ u : World, Calls Try.prog 17 #[.int .i64 4, .slice (some ⟨u.heap.size, 0, none⟩) 1 1] (u.alloc (.cells #[.int .i64 (X 2)] 3)) fun e w' => e = .returned (.bool true) ∧ Below u.heap.size u w') :=
    fun u => fit_lst 4 (.inr rfl) [X 2] u (by simp) _ h4
  have F2 : Hid (∀ u : World, Calls Try.prog 17 #[.int .i64 2, .slice (some ⟨u.heap.size, 0, none⟩) 3 3] (u.alloc (.cells #[.int .i64 (X 1), .int .i64 (X 11), .int .i64 (X 12)] 3)) fun e w' => e = .returned (.bool false) ∧ Below u.heap.size u w') :=
    fun u => fit_lst 2 (.inl rfl) [X 1, X 11, X 12] u (by simp) _ h2
  clear hk h4 h2
  go_enter Try.func5, Try.ntmps5
  go_wp2_with fail
  go_at_call 16
  refine (unhide KK _).mono ?_
  rintro e w1 ⟨rfl, hb⟩
  replace HK := hide ((unhide HK).call hb)
  clear KK hb
  have f0 := HK.out.1 0 _ rfl
  have f2 := HK.out.1 2 _ rfl
  go_wp2_with fail
  go_at_call 17
  refine (unhide F4 _).mono ?_
  rintro e w2 ⟨rfl, hb⟩
  replace HK := hide ((unhide HK).call hb)
  clear hb F4 f0 f2
  have f1 := HK.out.1 1 _ rfl
  have f11 := HK.out.1 11 _ rfl
  have f12 := HK.out.1 12 _ rfl
  go_wp2_with fail
  go_at_call 17
  refine (unhide F2 _).mono ?_
  rintro e w3 ⟨rfl, hb⟩
  replace HK := hide ((unhide HK).call hb)
  clear hb F2 f1 f11 f12
  go_wp2_with fail
  go_ret2
  exact ⟨rfl, HK.out.2.1⟩

set_option maxHeartbeats 4000000 in
theorem inode_v8 (X : Nat → Int) (w : World) (hk : kindB (X 0) = true) (h0 : (X 0 == 0) = false) (h4 : fitB 4 [X 2] = true) (h2 : fitB 2 [X 1, X 11, X 12] = true) (h8 : fitB 2 (dirs X) = false) :
    Calls Try.prog 5 #[Iv X] w fun e w' => e = .returned (.tuple #[.slice none 0 0, .int .i64 3]) ∧ Below w.heap.size w w' := by
  have HK := hide (Bx.start w (Ic X) 24)
  have KK : Hid (∀ u, Calls Try.prog 16 #[.int .i64 (X 0)] u fun e w' => e = .returned (.bool true) ∧ Below u.heap.size u w') := fun u => (isKind_any (X 0) u).mono fun e w' ⟨h1, h2⟩ => ⟨by rw [h1, hk], h2 ▸ Below.refl _ _⟩
  have F4 : Hid (∀ u : World, Calls Try.prog 17 #[.int .i64 4, .slice (some ⟨u.heap.size, 0, none⟩) 1 1] (u.alloc (.cells #[.int .i64 (X 2)] 3)) fun e w' => e = .returned (.bool true) ∧ Below u.heap.size u w') :=
    fun u => fit_lst 4 (.inr rfl) [X 2] u (by simp) _ h4
  have F2 : Hid (∀ u : World, Calls Try.prog 17 #[.int .i64 2, .slice (some ⟨u.heap.size, 0, none⟩) 3 3] (u.alloc (.cells #[.int .i64 (X 1), .int .i64 (X 11), .int .i64 (X 12)] 3)) fun e w' => e = .returned (.bool true) ∧ Below u.heap.size u w') :=
    fun u => fit_lst 2 (.inl rfl) [X 1, X 11, X 12] u (by simp) _ h2
  have F8 : Hid (∀ u : World, Bx w (Ic X) u → Calls Try.prog 17 #[.int .i64 2, .slice (some ⟨w.heap.size, 3, none⟩) 8 8] u fun e w' => e = .returned (.bool false) ∧ u = w') :=
    fun u hB => fit_dirs hB _ h8
  clear hk h4 h2 h8
  go_enter Try.func5, Try.ntmps5
  go_wp2_with fail
  go_at_call 16
  refine (unhide KK _).mono ?_
  rintro e w1 ⟨rfl, hb⟩
  replace HK := hide ((unhide HK).call hb)
  clear KK hb
  have f0 := HK.out.1 0 _ rfl
  have f2 := HK.out.1 2 _ rfl
  go_wp2_with fail
  go_at_call 17
  refine (unhide F4 _).mono ?_
  rintro e w2 ⟨rfl, hb⟩
  replace HK := hide ((unhide HK).call hb)
  clear hb F4 f0 f2
  have f1 := HK.out.1 1 _ rfl
  have f11 := HK.out.1 11 _ rfl
  have f12 := HK.out.1 12 _ rfl
  go_wp2_with fail
  go_at_call 17
  refine (unhide F2 _).mono ?_
  rintro e w3 ⟨rfl, hb⟩
  replace HK := hide ((unhide HK).call hb)
  clear hb F2 f1 f11 f12
  go_wp2_with fail
  go_at_call 17
  refine (unhide F8 _ HK.out).mono ?_
  rintro e w' ⟨rfl, rfl⟩
  clear F8
  go_wp2_with fail
  go_ret2
  exact ⟨rfl, HK.out.2.1⟩

end Go.Proofs.Ytmdkcoenjadieaa
